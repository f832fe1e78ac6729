/- Texts of elder layers, one behind the other: AdmitRows, AdmitBackFacts, RelWords, UseMath. -/
import Derived.Test.YtdglnpfnjinbkaaGreatC18
namespace Go.Proofs.YtdglnpfnjinbkaaGreat
open Go.RowKit
set_option linter.unusedVariables false
set_option linter.unusedSimpArgs false
set_option maxRecDepth 100000
set_option maxHeartbeats 4000000
section
theorem nm_of (t : Nat) (w : Int) (k : Int) (ht : (t : Int) < k) (hk : k <= 16) : nmB (hdV t w) k = true /\ nmT (hdV t w) k = t /\ nmV (hdV t w) k = pver w /\ W64 (hdV t w) := by
 have hB : hdB t = true := decide_eq_true (by omega)
 have hv := zWm w
 have hb : hdV t w = pver w * 16 + t := if_pos hB
 have e : nmB (hdV t w) k = true := by rw [hb]; exact decide_eq_true (by omega)
 refine ⟨e, ?_, ?_, ?_⟩
 ·unfold nmT; rw [if_pos e, hb]; omega
 ·unfold nmV; rw [if_pos e, hb]; omega
 ·have := hdV_bd t w; unfold W64; omega
end
section
theorem least_or (P : Nat -> Prop) : ∀ n, (∀ i, i < n -> ¬ P i) ∨ ∃ i, i < n /\ P i /\ ∀ j, j < i -> ¬ P j
 | 0 => Or.inl fun i h => by omega
 | n + 1 => by
   rcases least_or P n with h | ⟨i, h1, h2, h3⟩
   ·by_cases hp : P n
    ·exact Or.inr ⟨n, by omega, hp, h⟩
    ·refine Or.inl fun i hi => ?_
     rcases (show i < n ∨ i = n by omega) with q | q
     ·exact h i q
     ·rw [q]; exact hp
   ·exact Or.inr ⟨i, by omega, h2, h3⟩
end
section
variable {p : DP} {s : DS} {ws ws' W0 : List Int} {lg : List Acc} {B : Int} {c : Cf}
theorem balU_six (h : s.ph = 6) (u : Nat) : balU p s u = if s.er = 0 then tookU p u p.len else 0 := by
 obtain ⟨ph, at_, cs, ps, as_, lv, er, an, nd⟩ := s
 simp only at h
 subst h
 rw [zZo]
 by_cases he : er = 0
 ·subst he; simp
 ·simp [he, zZk]
def amtU (c : Cf) (ws : List Int) (u t : Nat) : Int := if On c.ps (ofV (ws.getD (tkN c t + 1) 0)) u then ofN (ws.getD (tkN c t + 1) 0) else 0
def totU (c : Cf) (ws : List Int) (u : Nat) : List Nat -> Int
 | [] => 0
 | t :: ts => amtU c ws u t + totU c ws u ts
theorem totU_app (u : Nat) : ∀ (l m : List Nat), totU c ws u (l ++ m) = totU c ws u l + totU c ws u m
 | [], m => by simp [totU]
 | t :: l, m => by rw [List.cons_append, totU, totU, totU_app u l m]; omega
theorem zVw (u : Nat) : ∀ (l : List Nat), (∀ t ∈ l, ws'.getD (tkN c t + 1) 0 = ws.getD (tkN c t + 1) 0) -> totU c ws' u l = totU c ws u l
 | [], _ => rfl
 | t :: l, h => by
   rw [totU, totU, zVw u l (fun x hx => h x (List.mem_cons_of_mem _ hx))]
   unfold amtU
   rw [h t (List.mem_cons_self ..)]
structure Adm1 (p : DP) (ws : List Int) (s : DS) (ws' : List Int) (k : Nat) : Prop where
 lt : k < p.c.ti.toNat
 free : stS (ws.getD (tkN p.c k) 0) = 0
 oth : ∀ x, limN p.c p.c.ps.length <= x -> x ≠ tkN p.c k -> x ≠ tkN p.c k + 1 -> ws'.getD x 0 = ws.getD x 0
theorem zUg (hp : p.Ok) (h : AdmF p B ws s ws') :
 (s.er = 3 /\ ws' = ws) ∨
 (s.er = 4 /\ ∃ k, Adm1 p ws s ws' k /\ stS (ws'.getD (tkN p.c k) 0) = 0 /\ (∀ u, u < p.c.ps.length -> leftU p.c u ws' = leftU p.c u ws /\ sumZ (ctP p.c u 0) ws' = sumZ (ctP p.c u 0) ws)) ∨
 (s.er = 0 /\ ∃ k, Adm1 p ws s ws' k /\ stS (ws'.getD (tkN p.c k) 0) = 2 /\ s.an = hdV k (ws'.getD (tkN p.c k) 0) /\ ws'.getD (tkN p.c k + 1) 0 = bdV p.v p.n /\
  (∀ u, u < p.c.ps.length -> leftU p.c u ws' + (if On p.c.ps p.v u then p.n else 0) = leftU p.c u ws /\ ∃ z : Int, sumZ (ctP p.c u 0) ws' = sumZ (ctP p.c u 0) ws + (if On p.c.ps p.v u then p.n else 0) + z * 18446744073709551616)) := by
 have hti := zYi hp.rt
 have hleft : ∀ u, u < p.c.ps.length -> leftU p.c u ws' + (if s.er = 0 then tookU p u p.len else 0) = leftU p.c u ws := fun u hu => by
  have := h.left u hu
  rw [balU_six h.shut] at this; exact this
 rcases zUt p.cp ws with hn | ⟨k, hk, hf, hn⟩
 ·obtain ⟨a, -, -, d⟩ := h.alone.none hn
  exact Or.inl ⟨a, d⟩
 ·have hF : p.cp.tic k < p.c.ti.toNat := zTl (DP.cp_ok hp) k
  have hfree : stS (ws.getD (tkN p.c (p.cp.tic k)) 0) = 0 := hf
  right
  rcases least_or (fun i => RefP p ws i) p.len with hq | ⟨i, hi, hi2, hq⟩
  ·right
   obtain ⟨e0, e1, -, e3, e4, e5⟩ := h.alone.good k hk hf hn hq
   refine ⟨e0, p.cp.tic k, ⟨hF, hfree, fun x hx h1 h2 => ?_⟩, ?_, ?_, e4, fun u hu => ?_⟩
   ·-- the ticket that it took is the first free one
    rcases h.oth x hx with q | ⟨q1, q2, q3⟩
    ·exact q
    ·exfalso
     obtain ⟨B', hok⟩ := h.ok
     rcases hok.six h.shut with ⟨g1, -⟩ | ⟨g1, -⟩ | ⟨-, -, -, -, g2⟩
     ·omega
     ·omega
     ·rw [e1] at g2
      have hd1 : hdB (p.cp.tic k : Nat) = true := decide_eq_true (by omega)
      have hd2 : hdB (s.cs.n : Nat) = true := decide_eq_true (by omega)
      have n1 := (hd_nm (p.cp.tic k : Nat) (tnW (tnW (ws.getD (tkN p.c (p.cp.tic k)) 0) 1) 2) hd1).2.1
      have n2 := (hd_nm (s.cs.n : Nat) s.lv hd2).2.1
      rw [g2, n2] at n1
      have hcn : s.cs.n = p.cp.tic k := by omega
      rw [hcn] at q3
      rcases q3 with q3 | q3
      ·exact h1 q3
      ·exact h2 q3
   ·rw [e3]; exact tn_st _ _ (by decide) (by decide)
   ·rw [e3]; exact e1
   ·have ht := zTj hp u
    have hl := hleft u hu
    rw [if_pos e0] at hl
    obtain ⟨z, hz⟩ := e5 u hu
    rw [ht] at hl hz
    exact ⟨hl, z, hz⟩
  ·left
   obtain ⟨e0, -, -, e3⟩ := h.alone.over k hk hf hn i hi hi2 hq
   have hct : ∀ x, limN p.c p.c.ps.length <= x -> ∀ u, u < p.c.ps.length -> x < limN p.c u + 1 ∨ ctN p.c u <= x := fun x hx u hu => Or.inr (by have := zZg p.c hu; unfold ctN; omega)
   refine ⟨e0, p.cp.tic k, ⟨hF, hfree, fun x hx h1 h2 => ?_⟩, ?_, fun u hu => ⟨?_, ?_⟩⟩
   ·rw [e3 x (hct x hx), if_neg h1]
   ·rw [e3 _ (hct _ (by unfold tkN; omega)), if_pos rfl]; exact tn_st _ _ (by decide) (by decide)
   ·have hl := hleft u hu
    rw [if_neg (by omega)] at hl; omega
   ·exact sum_low hp.rt hu (fun x hx hv => by rw [e3 x hv, if_neg (by unfold tkN; omega)])
structure WR (c : Cf) (W0 : List Int) (B : Int) (ts : List Nat) (hs : List Int) (ws : List Int) : Prop where
 w : DW c B ws
 hs : hs = ts.map fun t => hdV (t : Nat) (ws.getD (tkN c t) 0)
 nd : ts.Nodup
 lt : ∀ t ∈ ts, t < c.ti.toNat
 live : ∀ t, t < c.ti.toNat -> (stS (ws.getD (tkN c t) 0) = 2 ↔ t ∈ ts)
 bd : ∀ t ∈ ts, BdOk c (ws.getD (tkN c t + 1) 0)
 left : ∀ u, u < c.ps.length -> leftU c u ws + totU c ws u ts = leftU c u W0
 sum : ∀ u, u < c.ps.length -> ∃ z : Int, sumZ (ctP c u 0) ws = totU c ws u ts + z * 18446744073709551616
theorem zX3 {t k : Nat} (h : t ≠ k) : tkN c t ≠ tkN c k /\ tkN c t ≠ tkN c k + 1 /\ tkN c t + 1 ≠ tkN c k /\ tkN c t + 1 ≠ tkN c k + 1 := by unfold tkN; omega
theorem WR.adm {ts : List Nat} {hs : List Int} (hp : p.Ok) (hB : B <= 9000000000000) (h : WR p.c W0 B ts hs ws) :
 ∃ ts', WR p.c W0 (B + 512 * 1048576) ts' (if (admS p ws).er = 0 then hs ++ [(admS p ws).an] else hs) (admW p ws) := by
 have hf := zSa hp hB h.w
 have hhi : ∀ t, limN p.c p.c.ps.length <= tkN p.c t /\ limN p.c p.c.ps.length <= tkN p.c t + 1 := fun t => by unfold tkN; omega
 generalize admS p ws = s at *
 generalize admW p ws = ws' at *
 rcases zUg hp hf with ⟨e, rfl⟩ | ⟨e, k, ha, hk, hu⟩ | ⟨e, k, ha, hk, han, hbd, hu⟩
 ·refine ⟨ts, ?_⟩
  rw [if_neg (by omega)]
  exact ⟨hf.w, h.hs, h.nd, h.lt, h.live, h.bd, h.left, h.sum⟩
 ·have hnk : k ∉ ts := fun hm => by have := (h.live k ha.lt).2 hm; rw [ha.free] at this; omega
  have hsame : ∀ t ∈ ts, ws'.getD (tkN p.c t) 0 = ws.getD (tkN p.c t) 0 /\ ws'.getD (tkN p.c t + 1) 0 = ws.getD (tkN p.c t + 1) 0 := fun t ht => by
   have hne : t ≠ k := fun q => hnk (by rw [<- q]; exact ht)
   obtain ⟨i1, i2, i3, i4⟩ := zX3 (c := p.c) hne
   exact ⟨ha.oth _ (hhi t).1 i1 i2, ha.oth _ (hhi t).2 i3 i4⟩
  refine ⟨ts, ?_⟩
  rw [if_neg (by omega)]
  refine ⟨hf.w, ?_, h.nd, h.lt, fun t ht => ?_, fun t ht => ?_, fun u hl => ?_, fun u hl => ?_⟩
  ·rw [h.hs]; exact List.map_congr_left (fun t ht => by rw [(hsame t ht).1])
  ·by_cases q : t = k
   ·subst q; rw [hk]; exact ⟨fun q2 => by omega, fun q2 => absurd q2 hnk⟩
   ·obtain ⟨i1, i2, -, -⟩ := zX3 (c := p.c) q
    rw [ha.oth _ (hhi t).1 i1 i2]; exact h.live t ht
  ·rw [(hsame t ht).2]; exact h.bd t ht
  ·rw [(hu u hl).1, zVw u ts (fun t ht => (hsame t ht).2)]; exact h.left u hl
  ·rw [(hu u hl).2, zVw u ts (fun t ht => (hsame t ht).2)]; exact h.sum u hl
 ·have hnk : k ∉ ts := fun hm => by have := (h.live k ha.lt).2 hm; rw [ha.free] at this; omega
  have hsame : ∀ t ∈ ts, ws'.getD (tkN p.c t) 0 = ws.getD (tkN p.c t) 0 /\ ws'.getD (tkN p.c t + 1) 0 = ws.getD (tkN p.c t + 1) 0 := fun t ht => by
   have hne : t ≠ k := fun q => hnk (by rw [<- q]; exact ht)
   obtain ⟨i1, i2, i3, i4⟩ := zX3 (c := p.c) hne
   exact ⟨ha.oth _ (hhi t).1 i1 i2, ha.oth _ (hhi t).2 i3 i4⟩
  have n0 := hp.n0
  have n1 := hp.n1
  have hv := hp.v
  have h12 := hp.rt.n1
  obtain ⟨b1, b2, b3⟩ := bd_of (p.v : Int) p.n (decide_eq_true (by omega))
  have hamt : ∀ u, amtU p.c ws' u k = if On p.c.ps p.v u then p.n else 0 := fun u => by unfold amtU; rw [hbd, b2, b3]
  have htot : ∀ u, totU p.c ws' u (ts ++ [k]) = totU p.c ws u ts + if On p.c.ps p.v u then p.n else 0 := fun u => by
   rw [totU_app, zVw u ts (fun t ht => (hsame t ht).2), totU, totU, hamt]; omega
  refine ⟨ts ++ [k], ?_⟩
  rw [if_pos e]
  refine ⟨hf.w, ?_, ?_, fun t ht => ?_, fun t ht => ?_, fun t ht => ?_, fun u hl => ?_, fun u hl => ?_⟩
  ·rw [List.map_append, h.hs, han]
   congr 1
   exact List.map_congr_left (fun t ht => by rw [(hsame t ht).1])
  ·rw [List.nodup_append]
   exact ⟨h.nd, by simp, fun a ha1 b hb1 q => hnk (by rw [List.mem_singleton] at hb1; rw [<- hb1, <- q]; exact ha1)⟩
  ·rcases List.mem_append.1 ht with q | q
   ·exact h.lt t q
   ·rw [List.mem_singleton] at q; rw [q]; exact ha.lt
  ·rw [List.mem_append, List.mem_singleton]
   by_cases q : t = k
   ·rw [q, hk]; exact ⟨fun _ => Or.inr rfl, fun _ => rfl⟩
   ·obtain ⟨i1, i2, -, -⟩ := zX3 (c := p.c) q
    rw [ha.oth _ (hhi t).1 i1 i2, h.live t ht]
    exact ⟨Or.inl, fun q2 => q2.resolve_right q⟩
  ·rcases List.mem_append.1 ht with q | q
   ·rw [(hsame t q).2]; exact h.bd t q
   ·rw [List.mem_singleton] at q
    rw [q, hbd]; exact ⟨b1, by rw [b2]; omega⟩
  ·rw [htot]
   have := (hu u hl).1
   have := h.left u hl
   omega
  ·rw [htot]
   obtain ⟨z1, q1⟩ := (hu u hl).2
   obtain ⟨z2, q2⟩ := h.sum u hl
   exact ⟨z1 + z2, by rw [q1, q2]; omega⟩
def adP (x : Ak) (l : List Int) (i : Nat) : DP := ⟨x.c, (lfOf x.c (l.getD i 0).toNat).toNat, l.getD i 0 % 20 + 1, i⟩
theorem adP_ok {x : Ak} {l : List Int} (hr : x.c.Rt) {i : Nat} (hi : i <= 4) : (adP x l i).Ok := by
 have := (lfOf_bd hr (l.getD i 0).toNat).2
 exact ⟨hr, by show (lfOf x.c (l.getD i 0).toNat).toNat < x.c.ps.length; omega, by show 1 <= l.getD i 0 % 20 + 1; omega, by show l.getD i 0 % 20 + 1 <= 1048576; omega, by show i <= 1000; omega⟩
def wdR (x : Ak) (l : List Int) : Nat -> List Int
 | 0 => akW x
 | k + 1 => admW (adP x l k) (wdR x l k)
def hdR (x : Ak) (l : List Int) : Nat -> List Int
 | 0 => []
 | k + 1 => if (admS (adP x l k) (wdR x l k)).er = 0 then hdR x l k ++ [(admS (adP x l k) (wdR x l k)).an] else hdR x l k
theorem wr_any {x : Ak} {l : List Int} (hr : x.c.Rt) (hx : x.Wf) : ∀ k : Nat, k <= 4 -> ∃ ts, WR x.c (akW x) (1099511627776 + (k : Int) * 536870912) ts (hdR x l k) (wdR x l k)
 | 0, _ => by
   refine ⟨[], ⟨(akW_dw x hr hx).more (by omega), rfl, List.nodup_nil, fun t h => by simp at h, fun t ht => ?_, fun t h => by simp at h, fun u hu => by simp [totU, wdR], fun u hu => ⟨0, by rw [wdR, zTy x hr u hu]; simp [totU]⟩⟩⟩
   rw [wdR, akW_tk x t ht]
   split
   ·exact ⟨fun h => absurd h (by decide +kernel), fun h => by simp at h⟩
   ·exact ⟨fun h => absurd h (by decide +kernel), fun h => by simp at h⟩
 | k + 1, hk => by
   obtain ⟨ts, h⟩ := wr_any (l := l) hr hx k (by omega)
   obtain ⟨ts', h'⟩ := WR.adm (p := adP x l k) (adP_ok hr (by omega)) (by omega) h
   refine ⟨ts', ?_⟩
   rw [wdR, hdR]
   have e : (1099511627776 + (k : Int) * 536870912) + 512 * 1048576 = 1099511627776 + ((k + 1 : Nat) : Int) * 536870912 := by omega
   rw [e] at h'
   exact h'
end
section
variable {ws ws' W0 : List Int} {B : Int} {c : Cf} {ts : List Nat} {hs : List Int}
def livB (c : Cf) (ws : List Int) (k : Nat) : Bool := decide (stS (ws.getD (tkN c k) 0) = 2 /\ ofB (ws.getD (tkN c k + 1) 0) = true /\ ofV (ws.getD (tkN c k + 1) 0) < c.ps.length)
def livV (c : Cf) (ws : List Int) (k : Nat) : Int := if livB c ws k = true then ofV (ws.getD (tkN c k + 1) 0) else 0
def livN (c : Cf) (ws : List Int) (k : Nat) : Int := if livB c ws k = true then ofN (ws.getD (tkN c k + 1) 0) else 0
def usT (c : Cf) (ws : List Int) (u k : Nat) : Int := if livB c ws k = true /\ On c.ps (livV c ws k) u then livN c ws k else 0
def usedU (c : Cf) (ws : List Int) (u : Nat) : Int := sK (usT c ws u) c.ti.toNat
theorem liv_bd (k : Nat) (h : livB c ws k = true) : 0 <= livV c ws k /\ livV c ws k < c.ps.length /\ 1 <= livN c ws k /\ livN c ws k <= 1048576 := by
 have h' := of_decide_eq_true h
 unfold livV livN
 rw [if_pos h, if_pos h]
 have := of_decide_eq_true (of_bd _ h'.2.1).1
 omega
theorem zQj (c : Cf) (ws : List Int) (k : Nat) : 0 <= livN c ws k /\ livN c ws k <= 1048576 := by
 by_cases h : livB c ws k = true
 ·have := liv_bd k h; omega
 ·unfold livN; rw [if_neg h]; omega
theorem usT_bd (c : Cf) (ws : List Int) (u k : Nat) : 0 <= usT c ws u k /\ usT c ws u k <= livN c ws k := by
 have := zQj c ws k
 unfold usT; split <;> omega
theorem usT_same {u k : Nat} (h1 : ws'.getD (tkN c k) 0 = ws.getD (tkN c k) 0) (h2 : ws'.getD (tkN c k + 1) 0 = ws.getD (tkN c k + 1) 0) : usT c ws' u k = usT c ws u k := by
 unfold usT livV livN livB; rw [h1, h2]
theorem zWw {u k : Nat} (h : stS (ws.getD (tkN c k) 0) ≠ 2) : usT c ws u k = 0 := by
 unfold usT livB; rw [if_neg]; intro hh; exact h (of_decide_eq_true hh.1).1
theorem used_one {u : Nat} (k : Nat) (hk : k < c.ti.toNat) (h : ∀ j, j < c.ti.toNat -> j ≠ k -> ws'.getD (tkN c j) 0 = ws.getD (tkN c j) 0 /\ ws'.getD (tkN c j + 1) 0 = ws.getD (tkN c j + 1) 0) : usedU c ws' u = usedU c ws u + (usT c ws' u k - usT c ws u k) := by
 have := sK_one (f := usT c ws' u) (g := usT c ws u) k c.ti.toNat (fun j hj hne => usT_same (h j hj hne).1 (h j hj hne).2)
 rw [if_pos hk] at this; exact this
theorem used_same {u : Nat} (h : ∀ j, j < c.ti.toNat -> ws'.getD (tkN c j) 0 = ws.getD (tkN c j) 0 /\ ws'.getD (tkN c j + 1) 0 = ws.getD (tkN c j + 1) 0) : usedU c ws' u = usedU c ws u :=
 zY5 _ (fun j hj => usT_same (h j hj).1 (h j hj).2)
theorem zWf (hr : c.Rt) (ws : List Int) (u : Nat) : 0 <= usedU c ws u /\ usedU c ws u <= 16777216 := by
 have hti := zYi hr
 have h1 := sK_pos (f := usT c ws u) c.ti.toNat (fun j _ => (usT_bd c ws u j).1)
 have h2 := sK_le (f := usT c ws u) (g := fun _ => 1048576) c.ti.toNat (fun j _ => by have := usT_bd c ws u j; have := zQj c ws j; omega)
 rw [zY4] at h2
 unfold usedU
 omega
def heldW (c : Cf) (ws : List Int) (u : Nat) : Int := wrap64 (ws.getD (limN c u) 0 - leftU c u ws - usedU c ws u)
end
end Go.Proofs.YtdglnpfnjinbkaaGreat
