/- Texts of elder layers, one behind the other: AdmitOth, ReleaseBal, ReleaseAlone, LawB, AskArg, Tree, Tree2. -/
import Derived.Test.YtlpdafldabfiaaaGreatC16
import Derived.Deep.Grids
section
namespace Go.Proofs.YtlpdafldabfiaaaGreat
open Go.RowKit
set_option linter.unusedVariables false
variable {p : DP} {s : DS} {ws ws0 : List Int} {lg l0 : List Acc} {B : Int}
theorem stepC_pre (q : CP) (k : CS) : stepC q k ws (l0 ++ lg) = ((stepC q k ws lg).1, (stepC q k ws lg).2.1, l0 ++ (stepC q k ws lg).2.2.1, (stepC q k ws lg).2.2.2) := by
  unfold stepC
  split
  · rfl
  split
  · split <;> simp [List.append_assoc]
  · split <;> simp [List.append_assoc]
theorem stepP_pre (q : PP) (k : PS) : stepP q k ws (l0 ++ lg) = ((stepP q k ws lg).1, (stepP q k ws lg).2.1, l0 ++ (stepP q k ws lg).2.2.1, (stepP q k ws lg).2.2.2) := by
  unfold stepP
  split <;> (try split) <;> simp [List.append_assoc]
theorem stepA_pre (q : AP) (k : AS) : stepA q k ws (l0 ++ lg) = ((stepA q k ws lg).1, (stepA q k ws lg).2.1, l0 ++ (stepA q k ws lg).2.2.1, (stepA q k ws lg).2.2.2) := by
  unfold stepA
  split <;> (try split) <;> simp [List.append_assoc]
theorem stepD_pre (p : DP) (s : DS) (ws : List Int) (l0 lg : List Acc) : stepD p s ws (l0 ++ lg) = ((stepD p s ws lg).1, (stepD p s ws lg).2.1, l0 ++ (stepD p s ws lg).2.2.1, (stepD p s ws lg).2.2.2) := by
  unfold stepD
  split
  · rw [stepC_pre]
  · rw [stepP_pre]
  · split <;> simp [List.append_assoc]
  · simp [List.append_assoc]
  · simp [List.append_assoc]
  · rw [stepA_pre]
  · rfl
def Oth (p : DP) (ws0 : List Int) (s : DS) (ws : List Int) : Prop := ∀ x, limN p.c p.c.ps.length ≤ x → ws.getD x 0 = ws0.getD x 0 ∨ (s.cs.ok = true ∧ s.cs.n < p.c.ti.toNat ∧ (x = tkN p.c s.cs.n ∨ x = tkN p.c s.cs.n + 1))
theorem Oth.start (p : DP) (ws : List Int) : Oth p ws (s0D p) ws := fun _ _ => Or.inl rfl
theorem Oth.keep {s' : DS} {ws' : List Int} (h : Oth p ws0 s ws) (hc : s'.cs = s.cs) (e : ∀ x, limN p.c p.c.ps.length ≤ x → ws'.getD x 0 = ws.getD x 0 ∨ (s.cs.ok = true ∧ s.cs.n < p.c.ti.toNat ∧ (x = tkN p.c s.cs.n ∨ x = tkN p.c s.cs.n + 1))) : Oth p ws0 s' ws' := fun x hx => by
  rw [hc]
  rcases e x hx with q | q
  · rw [q]; exact h x hx
  · exact Or.inr q
theorem stepD_oth (hp : p.Ok) (hB : B ≤ 1000000000000000000) (hw : DW p.c B ws) (hs : DSOk p B s) (h6 : s.ph ≠ 6) (h : Oth p ws0 s ws) : Oth p ws0 (stepD p s ws lg).1 (stepD p s ws lg).2.1 := by
  have hcp := DP.cp_ok hp
  obtain ⟨ph, at_, cs, ps, as_, lv, er, an, nd⟩ := s
  have hph := hs.ph
  simp only at hph h6
  match ph, hph, h6 with
  | 0, _, _ =>
    have hf := hs.zero rfl
    have hok := hs.c.open_ hf
    simp only at hf hok
    have hcs : ∀ k : CS, (afterC p ⟨0, at_, cs, ps, as_, lv, er, an, nd⟩ k).cs = k := fun k => by unfold afterC; split <;> (try split) <;> rfl
    have h' : ∀ x, limN p.c p.c.ps.length ≤ x → ws.getD x 0 = ws0.getD x 0 := fun x hx => by
      rcases h x hx with q | q
      · exact q
      · have := q.1; simp only at this; rw [hok] at this; exact absurd this (by decide)
    intro x hx
    simp only [stepD]
    rw [hcs]
    unfold stepC
    rw [if_neg (by rw [hf]; decide)]
    by_cases hn : cs.seen = true
    · rw [if_pos hn]
      by_cases hc : ws.getD (p.cp.wd cs.j) 0 = cs.saw
      · rw [if_pos hc]
        simp only
        by_cases e : p.cp.wd cs.j = x
        · exact Or.inr ⟨by first | trivial | rfl, tic_lt hcp _, Or.inl (by rw [← e]; rfl)⟩
        · left; rw [getD_set, if_neg (fun hh => e hh.1)]; exact h' x hx
      · rw [if_neg hc]; exact Or.inl (h' x hx)
    · rw [if_neg hn]
      split <;> exact Or.inl (h' x hx)
  | 1, _, _ =>
    obtain ⟨h1, h2, h3⟩ := hs.one rfl
    simp only at h1 h2 h3
    obtain ⟨-, -, -, b5⟩ := step_bal (lg := lg) (DP.pp_ok hp at_) hB (hw.pw hp.rt (DP.nd_lt hp at_ h1) (DP.st_lt hp) p.n) h2 h3
    have hlu := limN_lt p.c (DP.nd_lt hp at_ h1)
    have hst := DP.st_lt hp
    refine h.keep ?_ (fun x hx => Or.inl (b5 x (by simp only [DP.pp, avN]; omega) (by simp only [DP.pp, leN]; omega)))
    simp only [stepD]; unfold afterP; split <;> (try split) <;> (try split) <;> rfl
  | 2, _, _ =>
    obtain ⟨h1, h2, h3, h4⟩ := hs.two rfl
    have ho := hs.had (by simp) (by simp)
    simp only at h1 ho
    have hn := (hs.c.good ho).2.1
    simp only [stepD]
    by_cases hz : at_ = 0
    · rw [if_pos hz]
      refine h.keep rfl (fun x hx => ?_)
      by_cases e : tkN p.c cs.n = x
      · exact Or.inr ⟨ho, hn, Or.inl e.symm⟩
      · exact Or.inl (by simp only; rw [getD_set, if_neg (fun hh => e hh.1)])
    · rw [if_neg hz]
      have hlu := limN_lt p.c (DP.nd_lt hp (at_ - 1) (by omega))
      exact h.keep rfl (fun x hx => Or.inl (by simp only; rw [getD_set, if_neg (by unfold avN; omega)]))
  | 3, _, _ =>
    have ho := hs.had (by simp) (by simp)
    simp only at ho
    have hn := (hs.c.good ho).2.1
    refine h.keep rfl (fun x hx => ?_)
    by_cases e : tkN p.c cs.n + 1 = x
    · exact Or.inr ⟨ho, hn, Or.inr e.symm⟩
    · exact Or.inl (by simp only [stepD]; rw [getD_set, if_neg (fun hh => e hh.1)])
  | 4, _, _ =>
    have ho := hs.had (by simp) (by simp)
    simp only at ho
    have hn := (hs.c.good ho).2.1
    refine h.keep rfl (fun x hx => ?_)
    by_cases e : tkN p.c cs.n = x
    · exact Or.inr ⟨ho, hn, Or.inl e.symm⟩
    · exact Or.inl (by simp only [stepD]; rw [getD_set, if_neg (fun hh => e hh.1)])
  | 5, _, _ =>
    obtain ⟨h1, h2, h3, h4⟩ := hs.five rfl
    simp only at h1 h2 h3
    have hlu := limN_lt p.c (DP.nd_lt hp at_ h1)
    have hst := (st_nat hp.rt).1
    have hout := fun j => stepA_out (ws := ws) (lg := lg) h2 h3 j
    have eb : (p.ap at_).b = ctN p.c (p.nd at_) := rfl
    have eS : (p.ap at_).S = p.c.st := rfl
    rw [eb, eS] at hout
    refine h.keep ?_ (fun x hx => Or.inl (hout x (Or.inr (by unfold ctN; omega))))
    simp only [stepD]; unfold afterA; split <;> (try split) <;> rfl
  | 6, _, h6 => exact absurd rfl h6
  | k + 7, h, _ => omega
def dM (p : DP) : Mach DS where
  asn _ := emp
  step s ws lg := stepD p s ws lg
  ok _ _ _ := True
def admR (p : DP) (ws : List Int) : Nat × Bool × DS × List Int × List Acc := playF (dM p) [] 3000 0 (s0D p) ws []
def admS (p : DP) (ws : List Int) : DS := (admR p ws).2.2.1
def admW (p : DP) (ws : List Int) : List Int := (admR p ws).2.2.2.1
structure AdmF (p : DP) (B : Int) (ws : List Int) (s : DS) (ws' : List Int) : Prop where
  w : DW p.c (B + 512 * 1048576) ws'
  shut : s.ph = 6
  ok : ∃ B', DSOk p B' s
  left : ∀ u, u < p.c.ps.length → leftU p.c u ws' + balU p s u = leftU p.c u ws
  alone : Alone12 p ws s ws'
  oth : Oth p ws s ws'
theorem adm_facts (hp : p.Ok) (hB : B ≤ 9000000000000) (hw : DW p.c B ws) : AdmF p B ws (admS p ws) (admW p ws) := by
  obtain ⟨k, s', ws', lg', e, h1, h2, h3⟩ := admit_alone (M := dM p) (fun _ _ _ => rfl) hp (show B ≤ 10000000000000 by omega) hw 3000 (by decide)
  have ho : Oth p ws s' ws' := by
    obtain ⟨k', q, s2, ws2, lg2, e2, -, i2, i3⟩ := playF_inv2 (M := dM p) (l := []) 3000 (fun t s ws1 lg => DI p B 200 t s ws1 lg ∧ Oth p ws s ws1) (fun t s ws1 lg => DI p B 200 t s ws1 lg ∧ Oth p ws s ws1) (fun t s ws1 lg => Oth p ws s ws1)
      (fun t s ws1 lg h => by rw [pokesAt_nil]; exact h)
      (fun t s ws1 lg ht h => by
        have hs := h.1.step hp (show B ≤ 10000000000000 by omega) (by omega)
        have hq := stepD_oth (lg := lg) hp (bt_le (show B ≤ 10000000000000 by omega) (by omega)) h.1.w h.1.ok h.1.open_ h.2
        exact ⟨fun hf => ⟨hs.1 hf, hq⟩, fun _ => hq⟩) 3000 0 _ ws [] (by omega) ⟨DI.start hp hw, Oth.start p ws⟩
    rw [e] at e2
    injection e2 with e3 e4
    injection e4 with e5 e6
    injection e6 with e7 e8
    injection e8 with e9 e10
    subst e5 e7 e9
    exact i3 rfl
  have es : admS p ws = s' := by unfold admS admR; rw [e]
  have ew : admW p ws = ws' := by unfold admW admR; rw [e]
  rw [es, ew]
  have hk : k ≤ 200 := h1.mu
  exact ⟨h1.w.more (by unfold bt; omega), h1.shut, ⟨_, h1.ok⟩, h2, h3, ho⟩
end Go.Proofs.YtlpdafldabfiaaaGreat
end
section
namespace Go.Proofs.YtlpdafldabfiaaaGreat
open Go.RowKit
set_option linter.unusedVariables false
variable {p : RP} {s : RS} {ws : List Int} {lg : List Acc} {B : Int}
def RP.dp (p : RP) (v : Nat) (n : Int) : DP := ⟨p.c, v, n, p.t⟩
def giveR (p : RP) (s : RS) (u : Nat) : Int := tookU (p.dp s.v s.n) u (if s.ph = 3 then s.at_ else if s.ph = 4 ∨ s.ph = 5 ∨ s.ph = 6 ∧ s.er = 0 then p.len s else 0)
def takR (p : RP) (s : RS) (u : Nat) : Int := tookU (p.dp s.v s.n) u (if s.ph = 4 then s.at_ else if s.ph = 5 ∨ s.ph = 6 ∧ s.er = 0 then p.len s else 0) + if s.ph = 4 ∧ p.nd s s.at_ = u then s.n + owed (p.ap s s.at_) s.as_ else 0
end Go.Proofs.YtlpdafldabfiaaaGreat
end
section
namespace Go.Proofs.YtlpdafldabfiaaaGreat
open Go.RowKit
set_option linter.unusedVariables false
variable {p : RP} {s : RS} {ws ws0 : List Int} {lg : List Acc} {B0 : Int} {M0 t : Nat}
def Liv (p : RP) (ws : List Int) : Prop := pver (ws.getD p.tk 0) = p.g ∧ stS (ws.getD p.tk 0) = 2
instance (p : RP) (ws : List Int) : Decidable (Liv p ws) := by unfold Liv; exact inferInstance
structure RA (p : RP) (ws0 : List Int) (t : Nat) (s : RS) (ws : List Int) : Prop where
  left : ∀ u, u < p.c.ps.length → leftU p.c u ws = leftU p.c u ws0 + giveR p s u
  sum : ∀ u, u < p.c.ps.length → ∃ z : Int, sumZ (ctP p.c u 0) ws + takR p s u = sumZ (ctP p.c u 0) ws0 + z * 18446744073709551616
  le : ∀ u i, u < p.c.ps.length → i < p.c.st.toNat → ws.getD (leN p.c u i) 0 = ws0.getD (leN p.c u i) 0
  lim : ∀ u, u < p.c.ps.length → ws.getD (limN p.c u) 0 = ws0.getD (limN p.c u) 0
  low : s.ph ≤ 1 → ws = ws0 ∧ t = s.ph
  vn : 3 ≤ s.ph → s.er = 0 → s.v = (ofV (ws0.getD (p.tk + 1) 0)).toNat ∧ s.n = ofN (ws0.getD (p.tk + 1) 0)
  six : s.ph = 6 → (s.er = 5 ∧ s.an = 0 ∧ s.nd = 0 ∧ ws = ws0 ∧ ¬ Liv p ws0 ∧ t = 1) ∨ (s.er = 0 ∧ s.an = s.n ∧ s.nd = s.v ∧ ws.getD p.tk 0 = tnW (tnW s.saw 3) 0)
end Go.Proofs.YtlpdafldabfiaaaGreat
end
section
namespace Go.Proofs.YtlpdafldabfiaaaGreat
open Go.ChangeShapes Go.WideShapes Go.ChangeAt Go.RowKit
set_option maxRecDepth 100000
set_option linter.unusedVariables false
def BlsAt (W : World) (v : Value) (zs : List Bool) : Prop :=
  (zs = [] ∧ ∃ p cap, v = .slice p 0 cap) ∨
  (0 < zs.length ∧ ∃ b off cap, v = .slice (some ⟨b, off, none⟩) zs.length cap ∧ b < W.heap.size ∧ ∀ j, j < zs.length → W.cell? ⟨b, off + j, none⟩ = some (.bool (zs.getD j false)))
theorem BlsAt.slice {w : World} {v : Value} {zs : List Bool} (h : BlsAt w v zs) : ∃ p cap, v = .slice p zs.length cap := by
  rcases h with ⟨rfl, p, cap, rfl⟩ | ⟨_, b, off, cap, rfl, _⟩ <;> exact ⟨_, _, rfl⟩
theorem BlsAt.at {w : World} {v : Value} {zs : List Bool} (h : BlsAt w v zs) (h0 : 0 < zs.length) : ∃ b off cap, v = .slice (some ⟨b, off, none⟩) zs.length cap ∧ ∀ j, j < zs.length → w.cell? ⟨b, off + j, none⟩ = some (.bool (zs.getD j false)) := by
  rcases h with ⟨rfl, _⟩ | ⟨_, b, off, cap, rfl, _, hc⟩
  · simp at h0
  · exact ⟨b, off, cap, rfl, hc⟩
end Go.Proofs.YtlpdafldabfiaaaGreat
end
section
namespace Go.Proofs.YtlpdafldabfiaaaGreat
open Go.ChangeShapes Go.WideShapes Go.ChangeAt Go.RowKit Go.Deep
set_option maxRecDepth 100000
set_option linter.unusedVariables false
theorem bools_of {H : Type} {enc : TypeId × Value → H} {W : World} {t e : TypeId} {v : Value} {x : DataW H × List MemPlace} {fuel : Nat}
    (ht : Tryz.prog.underlying t = some (.slice e)) (he : Tryz.prog.underlying e = some .bool) (hc : Tryz.prog.cellsOf e = 1)
    (hf : DataW.trod enc Tryz.prog W 0 (fun _ => true) true fuel t [v] = some x) (hlt : ∀ y ∈ x.2, y.block < W.heap.size) :
    ∃ zs : List Bool, zs.length ≤ maxLen ∧ BlsAt W v zs := by
  rcases Go.Deep.open_bools ht he hc hf with ⟨hcs, hx⟩ | ⟨a, len', cap', B, hcs, _, hl, hm, hx, hcell⟩
  · simp at hcs
    subst hcs
    exact ⟨[], by simp, Or.inl ⟨rfl, _, _, rfl⟩⟩
  · simp at hcs
    subst hcs
    subst hx
    refine ⟨(List.range len').map B, by simp; omega, ?_⟩
    by_cases hl0 : len' = 0
    · subst hl0
      exact Or.inl ⟨by simp, _, _, rfl⟩
    · obtain ⟨b, off, spot⟩ := a
      have hspot : spot = none := by simpa [Addr.add] using World.cell?_spot (hcell 0 (by omega))
      subst hspot
      have hbW : b < W.heap.size := hlt (.cell b off) (MemPlace.mem_row.2 ⟨0, by omega, by simp⟩)
      refine Or.inr ⟨by simp; omega, b, off, cap', by simp, hbW, fun j hj => ?_⟩
      rw [← add_plain, hcell j (by simp at hj; omega)]
      simp at hj
      simp [List.getD, hj]
structure Ak where
  c : Cf
  lf : Int
  n : Int
  th : Int
  bs : List Bool
  av : List Int
  l : List Pk
structure Ak.Wf (x : Ak) : Prop where
  d0 : 0 ≤ x.lf
  d1 : x.lf ≤ 255
  n0 : 0 ≤ x.n
  n1 : x.n ≤ 4294967295
  t0 : 0 ≤ x.th
  t1 : x.th ≤ 65535
  bm : x.bs.length ≤ maxLen
  av : ∀ i, i < x.av.length → 0 ≤ x.av.getD i 0 ∧ x.av.getD i 0 ≤ 4294967295
  am : x.av.length ≤ maxLen
  l : ∀ p ∈ x.l, I64 p.at_ ∧ I64 p.w ∧ I64 p.x
  lm : x.l.length ≤ maxLen
def akV (x : Ak) (vp vl vb va vk : Value) : Value := .agg #[.int .i64 x.c.th, .int .i64 x.c.st, .int .i64 x.c.ga, .int .i64 x.c.le, .int .i64 x.c.re, .int .i64 x.c.ti, vp, vl, .int .u8 x.lf, .int .u32 x.n, .int .u16 x.th, vb, va, vk]
theorem ak_at {H : Type} {enc : TypeId × Value → H} {W : World} {base : Nat} {v : Value} {d : DataW H} {ps : List MemPlace}
    (hval : Value.okWide Tryz.prog W .any base 59 v) (h : DataW.Trod enc Tryz.prog W 0 (fun _ => true) true 59 v d ps) (hlt : ∀ x ∈ ps, x.block < W.heap.size) :
    ∃ (x : Ak) (vp vl vb va vk : Value), v = akV x vp vl vb va vk ∧ Wide x.c ∧ x.Wf ∧ IntsAt W .i64 vp x.c.ps ∧ IntsAt W .i64 vl x.c.ls ∧ BlsAt W vb x.bs ∧ IntsAt W .u32 va x.av ∧ PksAt W vk x.l := by
  have hS := Tryz.underlying59
  have k_uint8 : Tryz.prog.cellsOf 5 = 1 := by kernel_rfl
  have k_uint16 : Tryz.prog.cellsOf 54 = 1 := by kernel_rfl
  have k_uint32 : Tryz.prog.cellsOf 53 = 1 := by kernel_rfl
  have k_bool : Tryz.prog.cellsOf 4 = 1 := by kernel_rfl
  have k_sbool : Tryz.prog.cellsOf 55 = 1 := by kernel_rfl
  have k_suint32 : Tryz.prog.cellsOf 56 = 1 := by kernel_rfl
  have k_spk : Tryz.prog.cellsOf 57 = 1 := by kernel_rfl
  have k_conf : Tryz.prog.cellsOf 24 = 8 := by kernel_rfl
  have kS : Tryz.prog.cellsOf 59 = 14 := by kernel_rfl
  obtain ⟨cs, rfl, hsz⟩ := okWide_struct hS hval
  obtain ⟨c0, c1, c2, c3, c4, c5, c6, c7, c8, c9, c10, c11, c12, c13, rfl⟩ := array14 (hsz.trans kS)
  obtain ⟨fuel, hf⟩ := h
  obtain ⟨xs, n, _, hx, _, hlen, hfld⟩ := DataW.trod_struct hS hf
  have f0 : DataW.trod enc Tryz.prog W 0 (fun _ => true) true n 24 [c0, c1, c2, c3, c4, c5, c6, c7] = xs[0]? := by have := hfld 0 _ rfl; simpa [k_uint8, k_uint16, k_uint32, k_sbool, k_suint32, k_spk, k_conf, Value.cells] using this
  have f1 : DataW.trod enc Tryz.prog W 0 (fun _ => true) true n 5 [c8] = xs[1]? := by have := hfld 1 _ rfl; simpa [k_uint8, k_uint16, k_uint32, k_sbool, k_suint32, k_spk, k_conf, Value.cells] using this
  have f2 : DataW.trod enc Tryz.prog W 0 (fun _ => true) true n 53 [c9] = xs[2]? := by have := hfld 2 _ rfl; simpa [k_uint8, k_uint16, k_uint32, k_sbool, k_suint32, k_spk, k_conf, Value.cells] using this
  have f3 : DataW.trod enc Tryz.prog W 0 (fun _ => true) true n 54 [c10] = xs[3]? := by have := hfld 3 _ rfl; simpa [k_uint8, k_uint16, k_uint32, k_sbool, k_suint32, k_spk, k_conf, Value.cells] using this
  have f4 : DataW.trod enc Tryz.prog W 0 (fun _ => true) true n 55 [c11] = xs[4]? := by have := hfld 4 _ rfl; simpa [k_uint8, k_uint16, k_uint32, k_sbool, k_suint32, k_spk, k_conf, Value.cells] using this
  have f5 : DataW.trod enc Tryz.prog W 0 (fun _ => true) true n 56 [c12] = xs[5]? := by have := hfld 5 _ rfl; simpa [k_uint8, k_uint16, k_uint32, k_sbool, k_suint32, k_spk, k_conf, Value.cells] using this
  have f6 : DataW.trod enc Tryz.prog W 0 (fun _ => true) true n 57 [c13] = xs[6]? := by have := hfld 6 _ rfl; simpa [k_uint8, k_uint16, k_uint32, k_sbool, k_suint32, k_spk, k_conf, Value.cells] using this
  match xs, hlen with
  | [y0, y1, y2, y3, y4, y5, y6], _ =>
    simp only [Prod.mk.injEq] at hx
    have hin : ∀ z ∈ [y0, y1, y2, y3, y4, y5, y6], ∀ y ∈ z.2, y.block < W.heap.size := fun z hz y hy => hlt y (by rw [hx.2]; exact List.mem_flatMap.2 ⟨z, hz, hy⟩)
    obtain ⟨c, e0, e1, e2, e3, e4, e5, hwd, hp, hl⟩ := conf_of (x := y0) f0 (hin _ (by simp))
    obtain ⟨a1, b1, _, w1⟩ := DataW.trod_int Tryz.underlying5 f1
    obtain ⟨a2, b2, _, w2⟩ := DataW.trod_int Tryz.underlying53 f2
    obtain ⟨a3, b3, _, w3⟩ := DataW.trod_int Tryz.underlying54 f3
    obtain ⟨bs, b4, b5⟩ := bools_of (v := c11) (x := y4) Tryz.underlying55 Tryz.underlying4 k_bool f4 (hin _ (by simp))
    obtain ⟨zs, z1, z2, z3⟩ := ints_of (v := c12) (x := y5) Tryz.underlying56 Tryz.underlying53 k_uint32 f5 (hin _ (by simp))
    obtain ⟨rows, r1, r2, r3, r4⟩ := structs_of ([.i64, .i64, .i64] : List IntKind) (v := c13) (x := y6) Tryz.underlying57 Tryz.underlying99 (by kernel_rfl) (by kernel_rfl) rfl (fun j f hf => match j, hf with | 0, hf => by cases hf; exact Tryz.underlying3 | 1, hf => by cases hf; exact Tryz.underlying3 | 2, hf => by cases hf; exact Tryz.underlying3 | q + 3, hf => by simp at hf) f6
    obtain ⟨p1, p2, p3⟩ := pks_in r2 r3 r4
    simp at b1 b2 b3
    subst e0 e1 e2 e3 e4 e5 b1 b2 b3
    exact ⟨⟨c, a1, a2, a3, bs, zs, pksOf rows⟩, c6, c7, c11, c12, c13, rfl, hwd, ⟨(law_wf w1).1, (law_wf w1).2, (law_wf w2).1, (law_wf w2).2, (law_wf w3).1, (law_wf w3).2, b4, all_wf z2, z1, p3, by rw [p1]; exact r1⟩, hp, hl, b5, z3, p2⟩
end Go.Proofs.YtlpdafldabfiaaaGreat
end
section
namespace Go.Proofs.YtlpdafldabfiaaaGreat
open Go.ChangeShapes Go.WideShapes Go.ChangeAt Go.RowKit
set_option linter.unusedVariables false
variable {w0 w w' : World} {F0 : Nat → Prop} {L : List Asn}
end Go.Proofs.YtlpdafldabfiaaaGreat
end
section
namespace Go.Proofs.YtlpdafldabfiaaaGreat
open Go.ChangeShapes Go.WideShapes Go.ChangeAt Go.RowKit
set_option linter.unusedVariables false
variable {w0 w w' : World} {F0 : Nat → Prop} {L : List Asn}
theorem tHas_yes (c : Cf) (p : Option Addr) (n cap : Nat) (vl : Value) (v : Int) (h0 : 0 ≤ v) (h1 : v < n) (hn : n ≤ 140737488351232) (w : World) :
    Calls Tryz.prog 142 #[cfV c (.slice p n cap) vl, .int .i64 v] w fun e w' => e = .returned (.bool true) ∧ Below w.heap.size w w' := by
  go_enter Tryz.func142, Tryz.ntmps142
  go_wp2
  go_ret
  exact ⟨rfl, (Below.refl _ _).alloc (Nat.le_refl _) _⟩
theorem tHas_no (c : Cf) (p : Option Addr) (n cap : Nat) (vl : Value) (v : Int) (h : ¬ (0 ≤ v ∧ v < n)) (hn : n ≤ 140737488351232) (w : World) :
    Calls Tryz.prog 142 #[cfV c (.slice p n cap) vl, .int .i64 v] w fun e w' => e = .returned (.bool false) ∧ Below w.heap.size w w' := by
  rcases (by omega : v < 0 ∨ (0 ≤ v ∧ (n : Int) ≤ v)) with h1 | ⟨h1, h2⟩
  · clear h
    go_enter Tryz.func142, Tryz.ntmps142
    go_wp2
    go_ret
    exact ⟨rfl, (Below.refl _ _).alloc (Nat.le_refl _) _⟩
  · have hF : decide (v < (n : Int)) = false := by simp; omega
    clear h h2
    go_enter Tryz.func142, Tryz.ntmps142
    go_wp2
    go_ret
    exact ⟨rfl, (Below.refl _ _).alloc (Nat.le_refl _) _⟩
end Go.Proofs.YtlpdafldabfiaaaGreat
end
