/- Texts of elder layers, one behind the other: AdmitRows, AdmitBackFacts, RelWords, UseMath. -/
import Derived.Test.YtlpdafldabfiaaaGreatC21
section
namespace Go.Proofs.YtlpdafldabfiaaaGreat
open Go.RowKit
set_option linter.unusedVariables false
end Go.Proofs.YtlpdafldabfiaaaGreat
end
section
namespace Go.Proofs.YtlpdafldabfiaaaGreat
open Go.RowKit
set_option linter.unusedVariables false
theorem least_or (P : Nat → Prop) : ∀ n, (∀ i, i < n → ¬ P i) ∨ ∃ i, i < n ∧ P i ∧ ∀ j, j < i → ¬ P j
  | 0 => Or.inl fun i h => by omega
  | n + 1 => by
    rcases least_or P n with h | ⟨i, h1, h2, h3⟩
    · by_cases hp : P n
      · exact Or.inr ⟨n, by omega, hp, h⟩
      · refine Or.inl fun i hi => ?_
        rcases (show i < n ∨ i = n by omega) with q | q
        · exact h i q
        · rw [q]; exact hp
    · exact Or.inr ⟨i, by omega, h2, h3⟩
end Go.Proofs.YtlpdafldabfiaaaGreat
end
section
namespace Go.Proofs.YtlpdafldabfiaaaGreat
open Go.RowKit
set_option linter.unusedVariables false
variable {p : DP} {s : DS} {ws ws' W0 : List Int} {lg : List Acc} {B : Int} {c : Cf}
theorem balU_six (h : s.ph = 6) (u : Nat) : balU p s u = if s.er = 0 then tookU p u p.len else 0 := by
  obtain ⟨ph, at_, cs, ps, as_, lv, er, an, nd⟩ := s
  simp only at h
  subst h
  rw [balU_ph]
  by_cases he : er = 0
  · subst he; simp
  · simp [he, tookU_zero]
def amtU (c : Cf) (ws : List Int) (u t : Nat) : Int := if On c.ps (ofV (ws.getD (tkN c t + 1) 0)) u then ofN (ws.getD (tkN c t + 1) 0) else 0
def totU (c : Cf) (ws : List Int) (u : Nat) : List Nat → Int
  | [] => 0
  | t :: ts => amtU c ws u t + totU c ws u ts
theorem totU_app (u : Nat) : ∀ (l m : List Nat), totU c ws u (l ++ m) = totU c ws u l + totU c ws u m
  | [], m => by simp [totU]
  | t :: l, m => by rw [List.cons_append, totU, totU, totU_app u l m]; omega
theorem totU_same (u : Nat) : ∀ (l : List Nat), (∀ t ∈ l, ws'.getD (tkN c t + 1) 0 = ws.getD (tkN c t + 1) 0) → totU c ws' u l = totU c ws u l
  | [], _ => rfl
  | t :: l, h => by
    rw [totU, totU, totU_same u l (fun x hx => h x (List.mem_cons_of_mem _ hx))]
    unfold amtU
    rw [h t (List.mem_cons_self ..)]
structure Adm1 (p : DP) (ws : List Int) (s : DS) (ws' : List Int) (k : Nat) : Prop where
  lt : k < p.c.ti.toNat
  free : stS (ws.getD (tkN p.c k) 0) = 0
  oth : ∀ x, limN p.c p.c.ps.length ≤ x → x ≠ tkN p.c k → x ≠ tkN p.c k + 1 → ws'.getD x 0 = ws.getD x 0
theorem adm_cases (hp : p.Ok) (h : AdmF p B ws s ws') :
    (s.er = 3 ∧ ws' = ws) ∨
    (s.er = 4 ∧ ∃ k, Adm1 p ws s ws' k ∧ stS (ws'.getD (tkN p.c k) 0) = 0 ∧ (∀ u, u < p.c.ps.length → leftU p.c u ws' = leftU p.c u ws ∧ sumZ (ctP p.c u 0) ws' = sumZ (ctP p.c u 0) ws)) ∨
    (s.er = 0 ∧ ∃ k, Adm1 p ws s ws' k ∧ stS (ws'.getD (tkN p.c k) 0) = 2 ∧ s.an = hdV k (ws'.getD (tkN p.c k) 0) ∧ ws'.getD (tkN p.c k + 1) 0 = bdV p.v p.n ∧
      (∀ u, u < p.c.ps.length → leftU p.c u ws' + (if On p.c.ps p.v u then p.n else 0) = leftU p.c u ws ∧ ∃ z : Int, sumZ (ctP p.c u 0) ws' = sumZ (ctP p.c u 0) ws + (if On p.c.ps p.v u then p.n else 0) + z * 18446744073709551616)) := by
  have hti := ti_nat hp.rt
  have hleft : ∀ u, u < p.c.ps.length → leftU p.c u ws' + (if s.er = 0 then tookU p u p.len else 0) = leftU p.c u ws := fun u hu => by
    have := h.left u hu
    rw [balU_six h.shut] at this; exact this
  rcases first_free p.cp ws with hn | ⟨k, hk, hf, hn⟩
  · obtain ⟨a, -, -, d⟩ := h.alone.none hn
    exact Or.inl ⟨a, d⟩
  · have hF : p.cp.tic k < p.c.ti.toNat := tic_lt (DP.cp_ok hp) k
    have hfree : stS (ws.getD (tkN p.c (p.cp.tic k)) 0) = 0 := hf
    right
    rcases least_or (fun i => RefP p ws i) p.len with hq | ⟨i, hi, hi2, hq⟩
    · right
      obtain ⟨e0, e1, -, e3, e4, e5⟩ := h.alone.good k hk hf hn hq
      refine ⟨e0, p.cp.tic k, ⟨hF, hfree, fun x hx h1 h2 => ?_⟩, ?_, ?_, e4, fun u hu => ?_⟩
      · -- the ticket that it took is the first free one
        rcases h.oth x hx with q | ⟨q1, q2, q3⟩
        · exact q
        · exfalso
          obtain ⟨B', hok⟩ := h.ok
          rcases hok.six h.shut with ⟨g1, -⟩ | ⟨g1, -⟩ | ⟨-, -, -, -, g2⟩
          · omega
          · omega
          · rw [e1] at g2
            have hd1 : hdB (p.cp.tic k : Nat) = true := decide_eq_true (by omega)
            have hd2 : hdB (s.cs.n : Nat) = true := decide_eq_true (by omega)
            have n1 := (hd_nm (p.cp.tic k : Nat) (tnW (tnW (ws.getD (tkN p.c (p.cp.tic k)) 0) 1) 2) hd1).2.1
            have n2 := (hd_nm (s.cs.n : Nat) s.lv hd2).2.1
            rw [g2, n2] at n1
            have hcn : s.cs.n = p.cp.tic k := by omega
            rw [hcn] at q3
            rcases q3 with q3 | q3
            · exact h1 q3
            · exact h2 q3
      · rw [e3]; exact tn_st _ _ (by decide) (by decide)
      · rw [e3]; exact e1
      · have ht := tookU_all hp u
        have hl := hleft u hu
        rw [if_pos e0] at hl
        obtain ⟨z, hz⟩ := e5 u hu
        rw [ht] at hl hz
        exact ⟨hl, z, hz⟩
    · left
      obtain ⟨e0, -, -, e3⟩ := h.alone.over k hk hf hn i hi hi2 hq
      have hct : ∀ x, limN p.c p.c.ps.length ≤ x → ∀ u, u < p.c.ps.length → x < limN p.c u + 1 ∨ ctN p.c u ≤ x := fun x hx u hu => Or.inr (by have := limN_lt p.c hu; unfold ctN; omega)
      refine ⟨e0, p.cp.tic k, ⟨hF, hfree, fun x hx h1 h2 => ?_⟩, ?_, fun u hu => ⟨?_, ?_⟩⟩
      · rw [e3 x (hct x hx), if_neg h1]
      · rw [e3 _ (hct _ (by unfold tkN; omega)), if_pos rfl]; exact tn_st _ _ (by decide) (by decide)
      · have hl := hleft u hu
        rw [if_neg (by omega)] at hl; omega
      · exact sum_low hp.rt hu (fun x hx hv => by rw [e3 x hv, if_neg (by unfold tkN; omega)])
structure WR (c : Cf) (W0 : List Int) (B : Int) (ts : List Nat) (hs : List Int) (ws : List Int) : Prop where
  w : DW c B ws
  hs : hs = ts.map fun t => hdV (t : Nat) (ws.getD (tkN c t) 0)
  nd : ts.Nodup
  lt : ∀ t ∈ ts, t < c.ti.toNat
  live : ∀ t, t < c.ti.toNat → (stS (ws.getD (tkN c t) 0) = 2 ↔ t ∈ ts)
  bd : ∀ t ∈ ts, BdOk c (ws.getD (tkN c t + 1) 0)
  left : ∀ u, u < c.ps.length → leftU c u ws + totU c ws u ts = leftU c u W0
  sum : ∀ u, u < c.ps.length → ∃ z : Int, sumZ (ctP c u 0) ws = totU c ws u ts + z * 18446744073709551616
theorem tkN_inj {t k : Nat} (h : t ≠ k) : tkN c t ≠ tkN c k ∧ tkN c t ≠ tkN c k + 1 ∧ tkN c t + 1 ≠ tkN c k ∧ tkN c t + 1 ≠ tkN c k + 1 := by unfold tkN; omega
theorem WR.adm {ts : List Nat} {hs : List Int} (hp : p.Ok) (hB : B ≤ 9000000000000) (h : WR p.c W0 B ts hs ws) :
    ∃ ts', WR p.c W0 (B + 512 * 1048576) ts' (if (admS p ws).er = 0 then hs ++ [(admS p ws).an] else hs) (admW p ws) := by
  have hf := adm_facts hp hB h.w
  have hhi : ∀ t, limN p.c p.c.ps.length ≤ tkN p.c t ∧ limN p.c p.c.ps.length ≤ tkN p.c t + 1 := fun t => by unfold tkN; omega
  generalize admS p ws = s at *
  generalize admW p ws = ws' at *
  rcases adm_cases hp hf with ⟨e, rfl⟩ | ⟨e, k, ha, hk, hu⟩ | ⟨e, k, ha, hk, han, hbd, hu⟩
  · refine ⟨ts, ?_⟩
    rw [if_neg (by omega)]
    exact ⟨hf.w, h.hs, h.nd, h.lt, h.live, h.bd, h.left, h.sum⟩
  · have hnk : k ∉ ts := fun hm => by have := (h.live k ha.lt).2 hm; rw [ha.free] at this; omega
    have hsame : ∀ t ∈ ts, ws'.getD (tkN p.c t) 0 = ws.getD (tkN p.c t) 0 ∧ ws'.getD (tkN p.c t + 1) 0 = ws.getD (tkN p.c t + 1) 0 := fun t ht => by
      have hne : t ≠ k := fun q => hnk (by rw [← q]; exact ht)
      obtain ⟨i1, i2, i3, i4⟩ := tkN_inj (c := p.c) hne
      exact ⟨ha.oth _ (hhi t).1 i1 i2, ha.oth _ (hhi t).2 i3 i4⟩
    refine ⟨ts, ?_⟩
    rw [if_neg (by omega)]
    refine ⟨hf.w, ?_, h.nd, h.lt, fun t ht => ?_, fun t ht => ?_, fun u hl => ?_, fun u hl => ?_⟩
    · rw [h.hs]; exact List.map_congr_left (fun t ht => by rw [(hsame t ht).1])
    · by_cases q : t = k
      · subst q; rw [hk]; exact ⟨fun q2 => by omega, fun q2 => absurd q2 hnk⟩
      · obtain ⟨i1, i2, -, -⟩ := tkN_inj (c := p.c) q
        rw [ha.oth _ (hhi t).1 i1 i2]; exact h.live t ht
    · rw [(hsame t ht).2]; exact h.bd t ht
    · rw [(hu u hl).1, totU_same u ts (fun t ht => (hsame t ht).2)]; exact h.left u hl
    · rw [(hu u hl).2, totU_same u ts (fun t ht => (hsame t ht).2)]; exact h.sum u hl
  · have hnk : k ∉ ts := fun hm => by have := (h.live k ha.lt).2 hm; rw [ha.free] at this; omega
    have hsame : ∀ t ∈ ts, ws'.getD (tkN p.c t) 0 = ws.getD (tkN p.c t) 0 ∧ ws'.getD (tkN p.c t + 1) 0 = ws.getD (tkN p.c t + 1) 0 := fun t ht => by
      have hne : t ≠ k := fun q => hnk (by rw [← q]; exact ht)
      obtain ⟨i1, i2, i3, i4⟩ := tkN_inj (c := p.c) hne
      exact ⟨ha.oth _ (hhi t).1 i1 i2, ha.oth _ (hhi t).2 i3 i4⟩
    have n0 := hp.n0
    have n1 := hp.n1
    have hv := hp.v
    have h12 := hp.rt.n1
    obtain ⟨b1, b2, b3⟩ := bd_of (p.v : Int) p.n (decide_eq_true (by omega))
    have hamt : ∀ u, amtU p.c ws' u k = if On p.c.ps p.v u then p.n else 0 := fun u => by unfold amtU; rw [hbd, b2, b3]
    have htot : ∀ u, totU p.c ws' u (ts ++ [k]) = totU p.c ws u ts + if On p.c.ps p.v u then p.n else 0 := fun u => by
      rw [totU_app, totU_same u ts (fun t ht => (hsame t ht).2), totU, totU, hamt]; omega
    refine ⟨ts ++ [k], ?_⟩
    rw [if_pos e]
    refine ⟨hf.w, ?_, ?_, fun t ht => ?_, fun t ht => ?_, fun t ht => ?_, fun u hl => ?_, fun u hl => ?_⟩
    · rw [List.map_append, h.hs, han]
      congr 1
      exact List.map_congr_left (fun t ht => by rw [(hsame t ht).1])
    · rw [List.nodup_append]
      exact ⟨h.nd, by simp, fun a ha1 b hb1 q => hnk (by rw [List.mem_singleton] at hb1; rw [← hb1, ← q]; exact ha1)⟩
    · rcases List.mem_append.1 ht with q | q
      · exact h.lt t q
      · rw [List.mem_singleton] at q; rw [q]; exact ha.lt
    · rw [List.mem_append, List.mem_singleton]
      by_cases q : t = k
      · rw [q, hk]; exact ⟨fun _ => Or.inr rfl, fun _ => rfl⟩
      · obtain ⟨i1, i2, -, -⟩ := tkN_inj (c := p.c) q
        rw [ha.oth _ (hhi t).1 i1 i2, h.live t ht]
        exact ⟨Or.inl, fun q2 => q2.resolve_right q⟩
    · rcases List.mem_append.1 ht with q | q
      · rw [(hsame t q).2]; exact h.bd t q
      · rw [List.mem_singleton] at q
        rw [q, hbd]; exact ⟨b1, by rw [b2]; omega⟩
    · rw [htot]
      have := (hu u hl).1
      have := h.left u hl
      omega
    · rw [htot]
      obtain ⟨z1, q1⟩ := (hu u hl).2
      obtain ⟨z2, q2⟩ := h.sum u hl
      exact ⟨z1 + z2, by rw [q1, q2]; omega⟩
def adP (x : Ak) (l : List Int) (i : Nat) : DP := ⟨x.c, (lfOf x.c (l.getD i 0).toNat).toNat, l.getD i 0 % 20 + 1, i⟩
theorem adP_ok {x : Ak} {l : List Int} (hr : x.c.Rt) {i : Nat} (hi : i ≤ 4) : (adP x l i).Ok := by
  have := (lfOf_bd hr (l.getD i 0).toNat).2
  exact ⟨hr, by show (lfOf x.c (l.getD i 0).toNat).toNat < x.c.ps.length; omega, by show 1 ≤ l.getD i 0 % 20 + 1; omega, by show l.getD i 0 % 20 + 1 ≤ 1048576; omega, by show i ≤ 1000; omega⟩
def wdR (x : Ak) (l : List Int) : Nat → List Int
  | 0 => akW x
  | k + 1 => admW (adP x l k) (wdR x l k)
def hdR (x : Ak) (l : List Int) : Nat → List Int
  | 0 => []
  | k + 1 => if (admS (adP x l k) (wdR x l k)).er = 0 then hdR x l k ++ [(admS (adP x l k) (wdR x l k)).an] else hdR x l k
def nR (l : List Int) : Nat := min l.length 4
theorem wr_any {x : Ak} {l : List Int} (hr : x.c.Rt) (hx : x.Wf) : ∀ k : Nat, k ≤ 4 → ∃ ts, WR x.c (akW x) (1099511627776 + (k : Int) * 536870912) ts (hdR x l k) (wdR x l k)
  | 0, _ => by
    refine ⟨[], ⟨(akW_dw x hr hx).more (by omega), rfl, List.nodup_nil, fun t h => by simp at h, fun t ht => ?_, fun t h => by simp at h, fun u hu => by simp [totU, wdR], fun u hu => ⟨0, by rw [wdR, nodeOk_zero x hr u hu]; simp [totU]⟩⟩⟩
    rw [wdR, akW_tk x t ht]
    split
    · exact ⟨fun h => absurd h (by decide +kernel), fun h => by simp at h⟩
    · exact ⟨fun h => absurd h (by decide +kernel), fun h => by simp at h⟩
  | k + 1, hk => by
    obtain ⟨ts, h⟩ := wr_any (l := l) hr hx k (by omega)
    obtain ⟨ts', h'⟩ := WR.adm (p := adP x l k) (adP_ok hr (by omega)) (by omega) h
    refine ⟨ts', ?_⟩
    rw [wdR, hdR]
    have e : (1099511627776 + (k : Int) * 536870912) + 512 * 1048576 = 1099511627776 + ((k + 1 : Nat) : Int) * 536870912 := by omega
    rw [e] at h'
    exact h'
end Go.Proofs.YtlpdafldabfiaaaGreat
end
section
namespace Go.Proofs.YtlpdafldabfiaaaGreat
open Go.RowKit
set_option linter.unusedVariables false
variable {ws ws' W0 : List Int} {B : Int} {c : Cf} {ts : List Nat} {hs : List Int}
def livB (c : Cf) (ws : List Int) (k : Nat) : Bool := decide (stS (ws.getD (tkN c k) 0) = 2 ∧ ofB (ws.getD (tkN c k + 1) 0) = true ∧ ofV (ws.getD (tkN c k + 1) 0) < c.ps.length)
def livV (c : Cf) (ws : List Int) (k : Nat) : Int := if livB c ws k = true then ofV (ws.getD (tkN c k + 1) 0) else 0
def livN (c : Cf) (ws : List Int) (k : Nat) : Int := if livB c ws k = true then ofN (ws.getD (tkN c k + 1) 0) else 0
def usT (c : Cf) (ws : List Int) (u k : Nat) : Int := if livB c ws k = true ∧ On c.ps (livV c ws k) u then livN c ws k else 0
def usedU (c : Cf) (ws : List Int) (u : Nat) : Int := sK (usT c ws u) c.ti.toNat
theorem liv_bd (k : Nat) (h : livB c ws k = true) : 0 ≤ livV c ws k ∧ livV c ws k < c.ps.length ∧ 1 ≤ livN c ws k ∧ livN c ws k ≤ 1048576 := by
  have h' := of_decide_eq_true h
  unfold livV livN
  rw [if_pos h, if_pos h]
  have := of_decide_eq_true (of_bd _ h'.2.1).1
  omega
theorem livN_bd (c : Cf) (ws : List Int) (k : Nat) : 0 ≤ livN c ws k ∧ livN c ws k ≤ 1048576 := by
  by_cases h : livB c ws k = true
  · have := liv_bd k h; omega
  · unfold livN; rw [if_neg h]; omega
theorem usT_bd (c : Cf) (ws : List Int) (u k : Nat) : 0 ≤ usT c ws u k ∧ usT c ws u k ≤ livN c ws k := by
  have := livN_bd c ws k
  unfold usT; split <;> omega
theorem usT_same {u k : Nat} (h1 : ws'.getD (tkN c k) 0 = ws.getD (tkN c k) 0) (h2 : ws'.getD (tkN c k + 1) 0 = ws.getD (tkN c k + 1) 0) : usT c ws' u k = usT c ws u k := by
  unfold usT livV livN livB; rw [h1, h2]
theorem usT_dead {u k : Nat} (h : stS (ws.getD (tkN c k) 0) ≠ 2) : usT c ws u k = 0 := by
  unfold usT livB; rw [if_neg]; intro hh; exact h (of_decide_eq_true hh.1).1
theorem used_one {u : Nat} (k : Nat) (hk : k < c.ti.toNat) (h : ∀ j, j < c.ti.toNat → j ≠ k → ws'.getD (tkN c j) 0 = ws.getD (tkN c j) 0 ∧ ws'.getD (tkN c j + 1) 0 = ws.getD (tkN c j + 1) 0) : usedU c ws' u = usedU c ws u + (usT c ws' u k - usT c ws u k) := by
  have := sK_one (f := usT c ws' u) (g := usT c ws u) k c.ti.toNat (fun j hj hne => usT_same (h j hj hne).1 (h j hj hne).2)
  rw [if_pos hk] at this; exact this
theorem used_same {u : Nat} (h : ∀ j, j < c.ti.toNat → ws'.getD (tkN c j) 0 = ws.getD (tkN c j) 0 ∧ ws'.getD (tkN c j + 1) 0 = ws.getD (tkN c j + 1) 0) : usedU c ws' u = usedU c ws u :=
  sK_congr _ (fun j hj => usT_same (h j hj).1 (h j hj).2)
theorem used_bd (hr : c.Rt) (ws : List Int) (u : Nat) : 0 ≤ usedU c ws u ∧ usedU c ws u ≤ 16777216 := by
  have hti := ti_nat hr
  have h1 := sK_pos (f := usT c ws u) c.ti.toNat (fun j _ => (usT_bd c ws u j).1)
  have h2 := sK_le (f := usT c ws u) (g := fun _ => 1048576) c.ti.toNat (fun j _ => by have := usT_bd c ws u j; have := livN_bd c ws j; omega)
  rw [sK_const] at h2
  unfold usedU
  omega
theorem on_chain {ps : List Int} (t : Tr ps) (b d : Int) : ∀ a : Int, -1 ≤ a → a < ps.length → On ps a b → On ps a d → On ps b d ∨ On ps d b := by
  refine path_ind t ?_ ?_
  · intro h; exact absurd h (on_out (Or.inl (by omega)))
  · intro a h0 h1 ih hb hd
    rcases (on_in t a b h0 h1).1 hb with e | hb'
    · left; rw [e]; exact hd
    · rcases (on_in t a d h0 h1).1 hd with e | hd'
      · right; rw [e]; exact hb
      · exact ih hb' hd'
theorem on_child {ps : List Int} (t : Tr ps) (v : Int) (hv : 0 ≤ v) : ∀ x : Int, -1 ≤ x → x < ps.length → On ps x v → x ≠ v → ∃ u : Nat, u < ps.length ∧ ps.getD u 0 = v ∧ On ps x u := by
  refine path_ind t ?_ ?_
  · intro h; exact absurd h (on_out (Or.inl (by omega)))
  · intro x h0 h1 ih h hne
    rcases (on_in t x v h0 h1).1 h with e | h'
    · exact absurd e.symm hne
    · by_cases e : par ps x = v
      · have ex : ((x.toNat : Nat) : Int) = x := by omega
        exact ⟨x.toNat, by omega, e, by rw [ex]; exact on_self t x h0 h1⟩
      · obtain ⟨u, u1, u2, u3⟩ := ih h' e
        exact ⟨u, u1, u2, (on_in t x u h0 h1).2 (Or.inr u3)⟩
theorem child_one {ps : List Int} (t : Tr ps) {v x : Int} {u u' : Nat} (x0 : 0 ≤ x) (x1 : x < ps.length) (hu : u < ps.length) (hu' : u' < ps.length) (e : ps.getD u 0 = v) (e' : ps.getD u' 0 = v) (h : On ps x u) (h' : On ps x u') : u = u' := by
  have key : ∀ a b : Nat, a < ps.length → b < ps.length → ps.getD a 0 = v → ps.getD b 0 = v → On ps a b → a = b := fun a b ha hb ea eb hab => by
    rcases (on_in t a b (by omega) (by omega)).1 hab with q | q
    · omega
    · have ep : par ps a = v := by unfold par; rw [Int.toNat_natCast]; exact ea
      have epb : par ps b = v := by unfold par; rw [Int.toNat_natCast]; exact eb
      rw [ep] at q
      have hf := t.fall a (by omega) (by omega)
      have hg := t.fall b (by omega) (by omega)
      by_cases hv : v < 0
      · exact absurd q (on_out (Or.inl hv))
      · have := on_bd t v (by omega) (by omega) b q
        omega
  rcases on_chain t u u' x (by omega) x1 h h' with q | q
  · exact key u u' hu hu' e e' q
  · exact (key u' u hu' hu e' e q).symm
theorem sK_add (f g : Nat → Int) : ∀ K, sK (fun k => f k + g k) K = sK f K + sK g K
  | 0 => rfl
  | K + 1 => by
    show sK (fun k => f k + g k) K + (f K + g K) = (sK f K + f K) + (sK g K + g K)
    rw [sK_add f g K]; omega
theorem sK_swap (f : Nat → Nat → Int) (M : Nat) : ∀ K, sK (fun k => sK (fun u => f k u) M) K = sK (fun u => sK (fun k => f k u) K) M
  | 0 => by
    show (0 : Int) = sK (fun u => 0) M
    rw [sK_const]; omega
  | K + 1 => by
    show sK (fun k => sK (fun u => f k u) M) K + sK (fun u => f K u) M = sK (fun u => sK (fun k => f k u) K + f K u) M
    rw [sK_swap f M K, sK_add]
theorem child_sum {ps : List Int} (t : Tr ps) {v x : Int} (n : Int) (hv : 0 ≤ v) (x0 : 0 ≤ x) (x1 : x < ps.length) : sK (fun u => if ps.getD u 0 = v ∧ On ps x u then n else 0) ps.length = if On ps x v ∧ x ≠ v then n else 0 := by
  by_cases h : On ps x v ∧ x ≠ v
  · obtain ⟨u, u1, u2, u3⟩ := on_child t v hv x (by omega) x1 h.1 h.2
    have h1 := sK_one (f := fun u => if ps.getD u 0 = v ∧ On ps x u then n else 0) (g := fun _ => 0) u ps.length (fun j hj hne => by
      (try simp only)
      rw [if_neg (fun hh => hne (child_one t x0 x1 hj u1 hh.1 u2 hh.2 u3))])
    rw [if_pos h, h1, sK_const, if_pos u1]
    (try simp only)
    rw [if_pos ⟨u2, u3⟩]; omega
  · rw [if_neg h]
    have h1 := sK_congr (f := fun u => if ps.getD u 0 = v ∧ On ps x u then n else 0) (g := fun _ => 0) ps.length (fun j hj => by
      (try simp only)
      refine if_neg (fun hh => h ?_)
      have ep : par ps j = v := by unfold par; rw [Int.toNat_natCast]; exact hh.1
      have hjv : On ps j v := (on_in t j v (by omega) (by omega)).2 (Or.inr (by
        have hf := t.fall j (by omega) (by omega)
        rw [ep] at hf ⊢; exact on_self t v hv (by omega)))
      refine ⟨on_trans t j v hjv x (by omega) x1 hh.2, fun e => ?_⟩
      have hb := on_bd t x (by omega) x1 j hh.2
      have hf := t.fall j (by omega) (by omega)
      omega)
    rw [h1, sK_const]; omega
theorem used_sums (hr : c.Rt) (ws : List Int) (v : Nat) : usedU c ws v = sK (fun u => if c.ps.getD u 0 = v then usedU c ws u else 0) c.ps.length + sK (fun k => if livB c ws k = true ∧ livV c ws k = v then livN c ws k else 0) c.ti.toNat := by
  have e1 : sK (fun u => if c.ps.getD u 0 = v then usedU c ws u else 0) c.ps.length = sK (fun u => sK (fun k => if c.ps.getD u 0 = v then usT c ws u k else 0) c.ti.toNat) c.ps.length := sK_congr _ (fun u hu => by
    (try simp only)
    by_cases e : c.ps.getD u 0 = v
    · rw [if_pos e]
      exact sK_congr _ (fun k _ => by (try simp only); rw [if_pos e])
    · rw [if_neg e]
      rw [sK_congr (g := fun _ => 0) _ (fun k _ => by (try simp only); rw [if_neg e]), sK_const]; omega)
  rw [e1, ← sK_swap, ← sK_add]
  refine sK_congr _ (fun k hk => ?_)
  (try simp only)
  by_cases hl : livB c ws k = true
  · have hb := liv_bd k hl
    have e2 := child_sum hr.tr (v := (v : Int)) (x := livV c ws k) (livN c ws k) (by omega) hb.1 hb.2.1
    have e3 : sK (fun u => if c.ps.getD u 0 = v then usT c ws u k else 0) c.ps.length = sK (fun u => if c.ps.getD u 0 = v ∧ On c.ps (livV c ws k) u then livN c ws k else 0) c.ps.length := sK_congr _ (fun u _ => by
      (try simp only)
      unfold usT
      by_cases e : c.ps.getD u 0 = v
      · by_cases e4 : On c.ps (livV c ws k) u
        · rw [if_pos e, if_pos ⟨hl, e4⟩, if_pos ⟨e, e4⟩]
        · rw [if_pos e, if_neg (fun h => e4 h.2), if_neg (fun h => e4 h.2)]
      · rw [if_neg e, if_neg (fun h => e h.1)])
    rw [e3, e2]
    unfold usT
    by_cases ev : livV c ws k = v
    · have hon : On c.ps (livV c ws k) v := by rw [← ev]; exact on_self hr.tr _ hb.1 hb.2.1
      rw [if_pos ⟨hl, hon⟩, if_neg (fun h => h.2 ev), if_pos ⟨hl, ev⟩]; omega
    · by_cases ho : On c.ps (livV c ws k) v
      · rw [if_pos ⟨hl, ho⟩, if_pos ⟨ho, ev⟩, if_neg (fun h => ev h.2)]; omega
      · rw [if_neg (fun h => ho h.2), if_neg (fun h => ho h.1), if_neg (fun h => ev h.2)]; omega
  · have e3 : sK (fun u => if c.ps.getD u 0 = v then usT c ws u k else 0) c.ps.length = 0 := by
      rw [sK_congr (g := fun _ => 0) _ (fun u _ => by
        have : usT c ws u k = 0 := by unfold usT; rw [if_neg (fun h => hl h.1)]
        (try simp only)
        rw [this]; split <;> rfl), sK_const]; omega
    rw [e3]
    unfold usT
    rw [if_neg (fun h => hl h.1), if_neg (fun h => hl h.1)]; rfl
theorem used_all (hr : c.Rt) (ws : List Int) : usedU c ws 0 = sK (livN c ws) c.ti.toNat := sK_congr _ (fun k _ => by
  unfold usT
  by_cases hl : livB c ws k = true
  · have hb := liv_bd k hl
    exact if_pos ⟨hl, on_root hr.tr _ (by omega) hb.2.1 hb.1⟩
  · rw [if_neg (fun h => hl h.1)]; unfold livN; rw [if_neg hl])
theorem used_under (hr : c.Rt) (ws : List Int) {u v : Nat} (h : On c.ps u v) : usedU c ws u ≤ usedU c ws v := sK_le _ (fun k _ => by
  unfold usT
  by_cases hl : livB c ws k = true ∧ On c.ps (livV c ws k) u
  · have hb := liv_bd k hl.1
    rw [if_pos hl, if_pos ⟨hl.1, on_trans hr.tr u v h _ (by omega) hb.2.1 hl.2⟩]; exact Int.le_refl _
  · rw [if_neg hl]; have := livN_bd c ws k; split <;> omega)
theorem used_apart (hr : c.Rt) (ws : List Int) {u v : Nat} (h : ¬ On c.ps u v) (h' : ¬ On c.ps v u) : usedU c ws u + usedU c ws v ≤ usedU c ws 0 := by
  unfold usedU
  rw [← sK_add]
  refine sK_le _ (fun k _ => ?_)
  (try simp only)
  unfold usT
  have hn := livN_bd c ws k
  by_cases hl : livB c ws k = true
  · have hb := liv_bd k hl
    have h0 : On c.ps (livV c ws k) (0 : Nat) := on_root hr.tr _ (by omega) hb.2.1 hb.1
    rw [if_pos (⟨hl, h0⟩ : livB c ws k = true ∧ On c.ps (livV c ws k) ((0 : Nat) : Int))]
    by_cases h1 : On c.ps (livV c ws k) u
    · by_cases h2 : On c.ps (livV c ws k) v
      · rcases on_chain hr.tr u v _ (by omega) hb.2.1 h1 h2 with q | q
        · exact absurd q h
        · exact absurd q h'
      · rw [if_pos ⟨hl, h1⟩, if_neg (fun q => h2 q.2)]; omega
    · rw [if_neg (fun q => h1 q.2)]; split <;> omega
  · rw [if_neg (fun q => hl q.1), if_neg (fun q => hl q.1), if_neg (fun q => hl q.1)]; omega
def totL (g : Nat → Int) : List Nat → Int
  | [] => 0
  | t :: ts => g t + totL g ts
theorem sK_mem (g : Nat → Int) (N : Nat) : ∀ ts : List Nat, ts.Nodup → (∀ t ∈ ts, t < N) → sK (fun k => if k ∈ ts then g k else 0) N = totL g ts
  | [], _, _ => by
    rw [sK_congr (g := fun _ => 0) N (fun k _ => by simp), sK_const]; simp [totL]
  | t :: ts, hn, hl => by
    have hnt := (List.nodup_cons.1 hn).1
    have h1 := sK_one (f := fun k => if k ∈ t :: ts then g k else 0) (g := fun k => if k ∈ ts then g k else 0) t N (fun j _ hne => by
      (try simp only)
      by_cases hj : j ∈ ts
      · rw [if_pos (List.mem_cons_of_mem _ hj), if_pos hj]
      · rw [if_neg (fun h => (List.mem_cons.1 h).elim hne hj), if_neg hj])
    rw [if_pos (hl t (List.mem_cons_self ..))] at h1
    (try simp only at h1)
    rw [if_pos (List.mem_cons_self ..), if_neg hnt] at h1
    rw [h1, sK_mem g N ts (List.nodup_cons.1 hn).2 (fun x hx => hl x (List.mem_cons_of_mem _ hx)), totL]; omega
theorem WR.liv (H : WR c W0 B ts hs ws) (k : Nat) (hk : k < c.ti.toNat) : livB c ws k = true ↔ k ∈ ts := by
  constructor
  · intro h; exact (H.live k hk).1 (of_decide_eq_true h).1
  · intro h; exact decide_eq_true ⟨(H.live k hk).2 h, (H.bd k h).1, (H.bd k h).2⟩
theorem WR.count (H : WR c W0 B ts hs ws) : sK (fun k => if livB c ws k = true then 1 else 0) c.ti.toNat = hs.length := by
  have h1 := sK_mem (fun _ => 1) c.ti.toNat ts H.nd H.lt
  have h2 : ∀ l : List Nat, totL (fun _ => 1) l = l.length := fun l => by
    induction l with
    | nil => rfl
    | cons a l ih => rw [totL, ih, List.length_cons]; omega
  rw [h2] at h1
  rw [H.hs, List.length_map, ← h1]
  refine sK_congr _ (fun k hk => ?_)
  (try simp only)
  have hi := H.liv k hk
  by_cases hm : k ∈ ts
  · rw [if_pos hm, if_pos (hi.2 hm)]
  · rw [if_neg hm, if_neg (fun q => hm (hi.1 q))]
def heldW (c : Cf) (ws : List Int) (u : Nat) : Int := wrap64 (ws.getD (limN c u) 0 - leftU c u ws - usedU c ws u)
end Go.Proofs.YtlpdafldabfiaaaGreat
end
