/- Texts of elder layers, one behind the other: AdmitRows, AdmitBackFacts, AskLeft. -/
import Derived.Test.YtjohngpbggendaaGreatB45
import Derived.Test.YtjohngpbggendaaGreatB48
section
/- What AdmitAlone and AdmitBack ask of a machine alone, of a law's words. No program in it. -/
namespace Go.Proofs.YtjohngpbggendaaGreat
open Go.RowKit
set_option linter.unusedVariables false
theorem ak_free (x : Ak) (hr : x.c.Rt) (i : Nat) : freeC x.p.cp (akW x) i ↔ (akW x).getD (tkN x.c (x.p.cp.tic i)) 0 = 0 := by
  have ht : x.p.cp.tic i < x.c.ti.toNat := tic_lt (DP.cp_ok (Ak.p_ok hr)) i
  have e : x.p.cp.wd i = tkN x.c (x.p.cp.tic i) := rfl
  unfold freeC
  rw [e, akW_tk x _ ht]
  split
  · constructor
    · intro h; exact absurd h (by decide +kernel)
    · intro h; exact absurd h (by decide)
  · constructor
    · intro _; rfl
    · intro _; decide +kernel
theorem ak_ref (x : Ak) (hr : x.c.Rt) (i : Nat) (hi : i < x.p.len) : RefP x.p (akW x) i ↔ (akW x).getD (avN x.c (x.p.nd i)) 0 < x.k := by
  have hp := Ak.p_ok hr
  have hu := DP.nd_lt hp i hi
  have hs := DP.st_lt hp
  have hst := st_nat hr
  have hk := Ak.k_bd (x := x)
  have h := akW_node x (x.p.nd i) hu (2 + x.p.t % x.p.S) (by have : x.p.c.st.toNat = x.c.st.toNat := rfl; omega)
  rw [if_neg (by omega), if_neg (by omega), if_neg (by have : x.p.c.st.toNat = x.c.st.toNat := rfl; omega)] at h
  have e : leN x.p.c (x.p.nd i) (x.p.t % x.p.S) = limN x.c (x.p.nd i) + (2 + x.p.t % x.p.S) := by unfold leN; exact Nat.add_assoc _ _ _
  unfold RefP
  rw [e, h]
  constructor
  · exact fun h => h.2
  · exact fun h => ⟨by show 0 < x.k; omega, h⟩
/-- The first free ticket from the J-th on, or -1. -/
def Fst (p : CP) (ws : List Int) (J : Nat) (F : Int) : Prop :=
  (F = -1 ∧ ∀ i, J ≤ i → i < p.ti → ¬ freeC p ws i) ∨ (∃ i, J ≤ i ∧ i < p.ti ∧ freeC p ws i ∧ (∀ j, J ≤ j → j < i → ¬ freeC p ws j) ∧ F = p.tic i)
theorem Fst.start (p : CP) (ws : List Int) : Fst p ws p.ti (-1) := Or.inl ⟨rfl, fun i h1 h2 => by omega⟩
theorem Fst.yes {p : CP} {ws : List Int} {J : Nat} (hJ : J < p.ti) (hf : freeC p ws J) : Fst p ws J (p.tic J : Int) := Or.inr ⟨J, Nat.le_refl _, hJ, hf, fun j h1 h2 => by omega, rfl⟩
theorem Fst.no {p : CP} {ws : List Int} {J : Nat} {F : Int} (h : Fst p ws (J + 1) F) (hf : ¬ freeC p ws J) : Fst p ws J F := by
  have key : ∀ i, J ≤ i → J + 1 ≤ i ∨ i = J := fun i h => by omega
  rcases h with ⟨h1, h2⟩ | ⟨i, h1, h2, h3, h4, h5⟩
  · refine Or.inl ⟨h1, fun i hi hl => ?_⟩
    rcases key i hi with q | q
    · exact h2 i q hl
    · rw [q]; exact hf
  · refine Or.inr ⟨i, by omega, h2, h3, fun j hj hl => ?_, h5⟩
    rcases key j hj with q | q
    · exact h4 j q hl
    · rw [q]; exact hf
/-- What Alone12 says of a law's words, by the first free ticket. -/
theorem alone_none' {x : Ak} {s : DS} {ws' : List Int} (ha : Alone12 x.p (akW x) s ws') (hF : Fst x.p.cp (akW x) 0 (-1)) : s.er = 3 ∧ s.an = 0 ∧ s.nd = 0 ∧ ws' = akW x := by
  rcases hF with ⟨_, h⟩ | ⟨i, _, _, _, _, h⟩
  · exact ha.none (fun i hi => h i (Nat.zero_le _) hi)
  · omega
theorem alone_over' {x : Ak} {s : DS} {ws' : List Int} {F : Nat} (hr : x.c.Rt) (ha : Alone12 x.p (akW x) s ws') (hF : Fst x.p.cp (akW x) 0 F) (i : Nat) (hi : i < x.p.len) (h1 : (akW x).getD (avN x.c (x.p.nd i)) 0 < x.k) (h2 : ∀ j, j < i → ¬ (akW x).getD (avN x.c (x.p.nd j)) 0 < x.k) :
    F < x.c.ti.toNat ∧ s.er = 4 ∧ s.an = 0 ∧ s.nd = x.p.nd i ∧ (∀ y, (∀ u, u < x.c.ps.length → y < limN x.c u + 1 ∨ ctN x.c u ≤ y) → ws'.getD y 0 = if y = tkN x.c F then tnW (tnW ((akW x).getD (tkN x.c F) 0) 1) 0 else (akW x).getD y 0) := by
  rcases hF with ⟨h, _⟩ | ⟨k, _, hk, hf, hn, e⟩
  · omega
  · have hFe : F = x.p.cp.tic k := by omega
    have ht : x.p.cp.tic k < x.c.ti.toNat := tic_lt (DP.cp_ok (Ak.p_ok hr)) k
    rw [hFe]
    obtain ⟨a, b, c, d⟩ := ha.over k hk hf (fun i hi => hn i (Nat.zero_le _) hi) i hi ((ak_ref x hr i hi).2 h1) (fun j hj => fun q => h2 j hj ((ak_ref x hr j (by omega)).1 q))
    exact ⟨ht, a, b, c, d⟩
theorem alone_good' {x : Ak} {s : DS} {ws' : List Int} {F : Nat} (hr : x.c.Rt) (ha : Alone12 x.p (akW x) s ws') (hF : Fst x.p.cp (akW x) 0 F) (h2 : ∀ j, j < x.p.len → ¬ (akW x).getD (avN x.c (x.p.nd j)) 0 < x.k) :
    F < x.c.ti.toNat ∧ s.er = 0 ∧ s.an = hdV F (ws'.getD (tkN x.c F) 0) ∧ s.nd = 0 ∧ stS (ws'.getD (tkN x.c F) 0) = 2 ∧ ws'.getD (tkN x.c F + 1) 0 = bdV x.v x.k ∧
    ∀ u, u < x.c.ps.length → wrap64 (sumZ (ctP x.c u 0) ws') = if onB x.c.ps x.v u = true then x.k else 0 := by
  rcases hF with ⟨h, _⟩ | ⟨k, _, hk, hf, hn, e⟩
  · omega
  · have hFe : F = x.p.cp.tic k := by omega
    have hp := Ak.p_ok hr
    have ht : x.p.cp.tic k < x.c.ti.toNat := tic_lt (DP.cp_ok hp) k
    rw [hFe]
    obtain ⟨a, b, c, d, f, g⟩ := ha.good k hk hf (fun i hi => hn i (Nat.zero_le _) hi) (fun i hi q => h2 i hi ((ak_ref x hr i hi).1 q))
    have hpc : x.p.c = x.c := rfl
    rw [hpc] at b d f g
    refine ⟨ht, a, by rw [d]; exact b, c, by rw [d]; exact tn_st _ _ (by decide) (by decide), f, fun u hu => ?_⟩
    obtain ⟨z, hz⟩ := g u hu
    have h0 := nodeOk_zero x hr u hu
    have ht2 := tookU_all hp u
    have hpn : x.p.n = x.k := rfl
    have hpv : (x.p.v : Int) = x.v := rfl
    rw [hpc, hpn, hpv] at ht2
    have hk2 := Ak.k_bd (x := x)
    rw [hz, h0, ht2]
    by_cases ho : On x.c.ps x.v u
    · have : onB x.c.ps x.v u = true := by unfold onB; exact decide_eq_true ho
      rw [if_pos ho, if_pos this]; unfold wrap64; omega
    · have : ¬ onB x.c.ps x.v u = true := fun h => ho (of_decide_eq_true h)
      rw [if_neg ho, if_neg this]; unfold wrap64; omega
/-- A handle of a ticket that is among so many. -/
theorem nm_of (t : Nat) (w : Int) (k : Int) (ht : (t : Int) < k) (hk : k ≤ 16) : nmB (hdV t w) k = true ∧ nmT (hdV t w) k = t ∧ nmV (hdV t w) k = pver w ∧ W64 (hdV t w) := by
  have hB : hdB t = true := decide_eq_true (by omega)
  have hv := pver_bd w
  have hb : hdV t w = pver w * 16 + t := if_pos hB
  have e : nmB (hdV t w) k = true := by rw [hb]; exact decide_eq_true (by omega)
  refine ⟨e, ?_, ?_, ?_⟩
  · unfold nmT; rw [if_pos e, hb]; omega
  · unfold nmV; rw [if_pos e, hb]; omega
  · have := hdV_bd t w; unfold W64; omega
end Go.Proofs.YtjohngpbggendaaGreat
end
section
/- What AdmitBack asks of a machine alone that a node refuses, of a law's words. No program in it. -/
namespace Go.Proofs.YtjohngpbggendaaGreat
open Go.RowKit
set_option linter.unusedVariables false
theorem least_or (P : Nat → Prop) : ∀ n, (∀ i, i < n → ¬ P i) ∨ ∃ i, i < n ∧ P i ∧ ∀ j, j < i → ¬ P j
  | 0 => Or.inl fun i h => by omega
  | n + 1 => by
    rcases least_or P n with h | ⟨i, h1, h2, h3⟩
    · by_cases hp : P n
      · exact Or.inr ⟨n, by omega, hp, h⟩
      · refine Or.inl fun i hi => ?_
        rcases (show i < n ∨ i = n by omega) with q | q
        · exact h i q
        · rw [q]; exact hp
    · exact Or.inr ⟨i, by omega, h2, h3⟩
/-- Refused by a node: one ticket was turned twice; no pool lost anything; each count is what it was. -/
theorem alone_back {x : Ak} {s : DS} {ws' : List Int} {lg' : List Acc} {B : Int} {M t : Nat} (hr : x.c.Rt) (ha : Alone12 x.p (akW x) s ws') (hE : DE x.p B M t s ws' lg')
    (hL : ∀ u, u < x.c.ps.length → leftU x.c u ws' + balU x.p s u = leftU x.c u (akW x)) (he : s.er = 4) :
    (∃ F : Nat, F < x.c.ti.toNat ∧ (akW x).getD (tkN x.c F) 0 = 0 ∧ ws'.getD (tkN x.c F) 0 = tnW (tnW 0 1) 0 ∧ ∀ i, i < x.c.ti.toNat → i ≠ F → ws'.getD (tkN x.c i) 0 = (akW x).getD (tkN x.c i) 0) ∧
    ∀ u, u < x.c.ps.length → ownU x.c u lg' = 0 ∧ leftU x.c u ws' = leftU x.c u (akW x) ∧ sumZ (ctP x.c u 0) ws' = 0 := by
  have hp := Ak.p_ok hr
  rcases least_or (fun i => freeC x.p.cp (akW x) i) x.c.ti.toNat with hn | ⟨k, hk, hf, hn⟩
  · have := (ha.none hn).1; omega
  rcases least_or (fun i => RefP x.p (akW x) i) x.p.len with hq | ⟨i, hi, hi2, hq⟩
  · have := (ha.good k hk hf hn hq).1; omega
  obtain ⟨-, -, -, hw⟩ := ha.over k hk hf hn i hi hi2 hq
  have hF : x.p.cp.tic k < x.c.ti.toNat := tic_lt (DP.cp_ok hp) k
  have hz := (ak_free x hr k).1 hf
  have hpc : x.p.c = x.c := rfl
  rw [hpc] at hw
  have htk : ∀ j u, u < x.c.ps.length → tkN x.c j < limN x.c u + 1 ∨ ctN x.c u ≤ tkN x.c j := fun j u hu => Or.inr (by have := limN_lt x.c hu; unfold ctN tkN; omega)
  refine ⟨⟨x.p.cp.tic k, hF, hz, ?_, fun j hj hne => ?_⟩, fun u hu => ?_⟩
  · rw [hw _ (htk _), if_pos rfl, hz]
  · rw [hw _ (htk _), if_neg (by unfold tkN; omega)]
  · have h1 := hE.took hp u hu
    rw [if_neg (by rw [he]; simp)] at h1
    have h2 := hE.own u hu
    rw [hpc] at h1 h2
    refine ⟨h1, by have := hL u hu; omega, ?_⟩
    rw [sum_low hr hu (ws := akW x) (fun k hk hv => by rw [hw k hv, if_neg (by unfold tkN; omega)])]
    exact nodeOk_zero x hr u hu
theorem back_ver : pver (tnW (tnW 0 1) 0) = 2 ∧ pver 0 = 0 ∧ stS (tnW (tnW 0 1) 0) = 0 ∧ tnW (tnW 0 1) 0 ≠ 0 := ⟨by decide +kernel, by decide +kernel, by decide +kernel, by decide +kernel⟩
end Go.Proofs.YtjohngpbggendaaGreat
end
section
/- breadlinelaw12.leftOf: what is left of a node's pool, in a law's words. Written by tools/gen_askleft.py. -/
namespace Go.Proofs.YtjohngpbggendaaGreat
open Go.ChangeShapes Go.WideShapes Go.ChangeAt Go.RowKit Go.Shelf
set_option linter.unusedVariables false
set_option linter.unusedSimpArgs false
set_option maxRecDepth 100000
variable {w0 w w' W : World} {F0 : Nat → Prop} {L : List Asn} {ws : List Int}
theorem sK_bd (f : Nat → Int) : ∀ K, (∀ j, j < K → 0 ≤ f j ∧ f j ≤ 1048576) → 0 ≤ sK f K ∧ sK f K ≤ K * 1048576
  | 0, _ => ⟨Int.le_refl _, by simp [sK]⟩
  | K + 1, h => by
    have h1 := sK_bd f K (fun j hj => h j (by omega))
    have h2 := h K (by omega)
    have e : sK f (K + 1) = sK f K + f K := rfl
    rw [e]; push_cast; omega
set_option maxHeartbeats 4000000 in
theorem aLeft_any {c : Cf} (hr : c.Rt) {pp pl : Option Addr} {cp cl : Nat} {v : Value} (u : Nat) (hu : u < c.ps.length) (hlen : ws.length = sizeN c) (hav : 0 ≤ ws.getD (avN c u) 0 ∧ ws.getD (avN c u) 0 ≤ 1125899906842624) (hle : ∀ i, i < c.st.toNat → 0 ≤ ws.getD (leN c u i) 0 ∧ ws.getD (leN c u i) 0 ≤ 1048576) (hv : IntsAt w .i64 v ws) :
    Calls Tryz.prog 42 #[v, cfV c (.slice pp c.ps.length cp) (.slice pl c.ls.length cl), .int .i64 u] w fun e w' => e = .returned (.int .i64 (leftU c u ws)) ∧ Below w.heap.size w w' := by
  have n1 := hr.n1
  have st := st_nat hr
  have hl := limN_lt c hu
  have hlim := limN_eq hr.sm u
  have hst := hr.sm
  have hsz : ws.length = limN c c.ps.length + 2 * c.ti.toNat := hlen
  have hsb := sizeN_bd hr
  have hAV : avN c u < ws.length := by unfold avN; omega
  have HLE := Lib.hid (fun i (hi : i < c.st.toNat) => show leN c u i < ws.length from by unfold leN; omega)
  have HA := fun w => (show Calls Tryz.prog 30 #[cfV c (.slice pp c.ps.length cp) (.slice pl c.ls.length cl), .int .i64 u] w fun e w' => e = .returned (.int .i64 (avN c u)) ∧ Below w.heap.size w w' from by
    have h := rAvail_q (pp := pp) (np := c.ps.length) (cp := cp) (pl := pl) (nl := c.ls.length) (cl := cl) c hst (u : Int) (by omega) (by omega) w
    rw [hlim] at h; unfold avN; push_cast; exact h)
  have HL := fun (i : Nat) (hi : i < c.st.toNat) w => (show Calls Tryz.prog 59 #[cfV c (.slice pp c.ps.length cp) (.slice pl c.ls.length cl), .int .i64 u, .int .i64 i] w fun e w' => e = .returned (.int .i64 (leN c u i)) ∧ Below w.heap.size w w' from by
    have h := rLease_q (pp := pp) (np := c.ps.length) (cp := cp) (pl := pl) (nl := c.ls.length) (cl := cl) c hst (u : Int) (by omega) (by omega) (i : Int) (by omega) (by omega) w
    rw [hlim] at h; rw [show ((leN c u i : Nat) : Int) = (limN c u : Int) + 2 + i from by unfold leN; push_cast; omega]; exact h)
  have HB := Lib.hid (fun k (hk : k ≤ c.st.toNat) => sK_bd (fun i => ws.getD (leN c u i) 0) k (fun j hj => hle j (by omega)))
  have HK := Lib.hid (fun k => show sK (fun i => ws.getD (leN c u i) 0) (k + 1) = sK (fun i => ws.getD (leN c u i) 0) k + ws.getD (leN c u k) 0 from rfl)
  have HR := Lib.hid (show leftU c u ws = ws.getD (avN c u) 0 + sK (fun i => ws.getD (leN c u i) 0) c.st.toNat from rfl)
  have HZ := Lib.hid (show sK (fun i => ws.getD (leN c u i) 0) 0 = 0 from rfl)
  have HST := Lib.hid st
  have hln : ws.length ≤ 1000 := by omega
  obtain ⟨b, off, cap, rfl, hb⟩ := hv.at (by omega)
  rw [HR.out]
  have h1 := (Own.start w).new (cfO c (.slice pp c.ps.length cp) (.slice pl c.ls.length cl))
  obtain ⟨d0, d1, d2, d3, d4, d5, d6, d7⟩ := conf_cells h1
  have H1 := Lib.hid h1
  have HS := Lib.hid (fun w' (hs : Below w.heap.size w w') j (hj : j < ws.length) => show w'.cell? ⟨b, off + j, none⟩ = some (.int .i64 (ws.getD j 0)) from (Below.cell hs (p := ⟨b, off + j, none⟩) (World.block_lt_of_cell? w _ (hb j hj))).trans (hb j hj))
  generalize sK (fun i => ws.getD (leN c u i) 0) = sk at *
  generalize avN c u = AV at *
  have HX := fun w' (hs : Below w.heap.size w w') => HS.out w' hs AV hAV
  generalize ws.getD AV 0 = A0 at *
  generalize leN c u = le at *
  have g1 : (AV : Int) < (ws.length : Int) := by omega
  clear h1 hb hv hr hu hl hlim hst hsz hsb hlen hle HR st
  go_enter Tryz.func42, Tryz.ntmps42
  go_wp2_with fail
  refine (HA _).mono ?_
  rintro e w1 ⟨rfl, hB⟩
  have hO := H1.out.below hB
  have x0 := HX _ hO.toBelow
  have HO := Lib.hid hO
  clear H1 hB hO HA HX d0 d1 d2 d3 d4 d5 d6 d7
  go_wp2_with fail
  go_loopw [7, 8] (fun v7 v8 wr => ∃ k : Nat, k ≤ c.st.toNat ∧ v7 = .int .i64 (A0 + sk k) ∧ v8 = .int .i64 k ∧ Own w NoF (blk w.heap.size (cfO c (.slice pp c.ps.length cp) (.slice pl c.ls.length cl)) :: []) wr) (fun v7 v8 _ => c.st.toNat - (intOf v8).toNat)
  case atStart => exact ⟨0, Nat.zero_le _, by rw [HZ.out, Int.add_zero], rfl, HO.out⟩
  case round =>
    obtain ⟨k, hk, rfl, rfl, hO⟩ := hrel
    clear HO x0
    obtain ⟨d0, d1, d2, d3, d4, d5, d6, d7⟩ := conf_cells hO
    by_cases hlt : k < c.st.toNat
    · have g2 : (k : Int) < c.st := by have := HST.out; omega
      have HLk := HL k hlt
      have hin := HLE.out k hlt
      have x0 := fun w' (hs : Below w.heap.size w w') => HS.out w' hs (le k) hin
      have hb0 := HB.out k hk
      have hb1 := HB.out (k + 1) hlt
      have hK := HK.out k
      have hk8 : c.st.toNat ≤ 8 := HST.out.2.2
      have hw : IntKind.i64.wrap (A0 + sk k + ws.getD (le k) 0) = A0 + sk (k + 1) := by rw [IntWalk.i64_in _ (by push_cast at hb1; omega)]; omega
      generalize ws.getD (le k) 0 = y at *
      generalize le k = LK at *
      have g3 : (LK : Int) < (ws.length : Int) := by omega
      have HO := Lib.hid hO
      have Hh := Lib.hid (And.intro hb0 hb1)
      clear hO hb0 hb1 hK hin HL
      go_wp2_with fail
      refine (HLk _).mono ?_
      rintro e w2 ⟨rfl, hB⟩
      have hO := HO.out.below hB
      have x1 := x0 _ hO.toBelow
      have HO2 := Lib.hid hO
      clear hO hB HO x0 HLk d0 d1 d2 d3 d4 d5 d6 d7
      go_wp2_with fail
      go_roundw
      case rel => exact ⟨k + 1, by omega, rfl, by go_num, HO2.out⟩
      case measure => simp [intOf]; omega
    · obtain rfl : k = c.st.toNat := by omega
      have g2 : ¬ (c.st.toNat : Int) < c.st := by have := HST.out; omega
      have HO := Lib.hid hO
      clear hO
      go_wp2_with fail
      go_ret
      exact ⟨rfl, HO.out.toBelow⟩
end Go.Proofs.YtjohngpbggendaaGreat
end
