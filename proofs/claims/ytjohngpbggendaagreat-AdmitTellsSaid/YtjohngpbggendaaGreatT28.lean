/- Texts of elder layers, one behind the other: PoolSteps, PoolFns. -/
import Derived.Test.YtjohngpbggendaaGreatT12
import Derived.Test.YtjohngpbggendaaGreatT27
section
/- Package pool's machine as mem.Play steps it: its Step is stepP; Ans. -/
namespace Go.Proofs.YtjohngpbggendaaGreat
open Go.ChangeShapes Go.WideShapes Go.ChangeAt Go.RowKit Go.Shelf
set_option linter.unusedVariables false
set_option maxRecDepth 100000
variable {w0 w w' : World} {F0 : Nat → Prop} {L : List Asn} {T : TypeId} {m : Nat} {ws : List Int} {lg : List Acc}
def nxP (a : Nat) : Int := if a = 9 then 0 else (a : Int) + 1
def waP (s : PS) (d : Int) : Int := if s.at_ = 1 ∨ s.at_ = 5 then s.l else if s.at_ = 3 then s.a else d
def exP (s : PS) (d : Int) : Int := if 3 ≤ s.at_ ∧ s.at_ ≤ 6 then s.e else d
def pmS (g : Nat) (nd : Int) (p : PP) (s : PS) (d : Int × Int) : Asn := blk g (pmO (nxP s.at_) nd p.n p.le p.av p.L (waP s d.1) (exP s d.2) (if s.r = true then 4 else 0) (if s.r = true then nd else 0))
def poolA (g : Nat) (nd : Int) (p : PP) (s : PS) : Asn := ex fun d : Int × Int => pmS g nd p s d
def poolM (g : Nat) (nd : Int) (p : PP) (B : Int) : Mach PS where
  asn s := poolA g nd p s
  step s ws lg := stepP p s ws lg
  ok s ws lg := p.Ok ∧ PW p B ws ∧ PSOk p B s ∧ lg.length < 1000000
theorem pool_steps (g m : Nat) (nd : Int) (T : TypeId) (p : PP) (B : Int) (hB : B ≤ 1000000000000000000) : StepsBy w0 F0 (poolM g nd p B) 232 (.pointer (some ⟨g, 0, none⟩)) T m := by
  intro L s ws lg w ⟨hp, hw, hs, hl⟩ h
  simp only [poolM] at h ⊢
  obtain ⟨d, h⟩ := h.exE
  have n0 := hp.n0
  have n1 := hp.n1
  have L0 := hp.L0
  have L1 := hp.L1
  have a0 := hw.a0
  have a1 := hw.a1
  have l0 := hw.l0
  have l1 := hw.l1
  have hav := hw.av
  have hle := hw.le
  obtain ⟨n, hn⟩ : ∃ n, n = p.n := ⟨_, rfl⟩
  obtain ⟨at_, l, a, e, r⟩ := s
  obtain ⟨h9, h1, h3, he, h5, hr, lI, aI, eI⟩ := hs
  simp only at h9 h1 h3 he h5 hr lI aI eI
  unfold I64 at lI aI eI
  have out : ∀ (s' : PS) (d' : Int × Int) {L2 : List Asn} {w2 : World}, Own w0 F0 (pmS g nd p s' d' :: L2) w2 → Own w0 F0 (poolA g nd p s' :: L2) w2 := fun s' d' _ _ h => Own.exI (A := fun d => pmS g nd p s' d) d' h
  rcases h9 with h9 | rfl
  · have rf : r = false := by
      cases r with
      | true => have := hr rfl; omega
      | false => rfl
    subst rf
    match at_, h9 with
    | 0, _ =>
      have h : Own w0 F0 (blk g (pmO 1 nd p.n p.le p.av p.L d.1 d.2 0 0) :: memA T m ws lg :: L) w := h
      simp only [stepP]
      by_cases hc : p.n ≤ ws.getD p.le 0
      · rw [if_pos hc]
        refine (pStep_go _ _ _ _ _ _ _ _ (acc0_yes _ hle rfl hc hl h) h).mono ?_
        rintro e w' ⟨rfl, hO⟩
        exact ⟨rfl, out _ d hO⟩
      · rw [if_neg hc]
        refine (pStep_go _ _ _ _ _ _ _ _ (acc0_no _ hle rfl (by omega) hl h) h).mono ?_
        rintro e w' ⟨rfl, hO⟩
        exact ⟨rfl, out _ (ws.getD p.le 0, d.2) hO⟩
    | 1, _ =>
      have h11 := h1 rfl
      have h : Own w0 F0 (blk g (pmO 2 nd p.n p.le p.av p.L l d.2 0 0) :: memA T m ws lg :: L) w := h
      simp only [stepP]
      by_cases hc : ws.getD p.le 0 = l
      · rw [if_pos hc]
        refine (pStep_go _ _ _ _ _ _ _ _ (acc1_yes hle hc (by omega) (by omega) hl h) h).mono ?_
        rintro e w' ⟨rfl, hO⟩
        exact ⟨rfl, out _ (l, d.2) hO⟩
      · rw [if_neg hc]
        refine (pStep_go _ _ _ _ _ _ _ _ (acc1_no hle hc (by omega) (by omega) hl h) h).mono ?_
        rintro e w' ⟨rfl, hO⟩
        exact ⟨rfl, out _ (l, d.2) hO⟩
    | 2, _ =>
      have h : Own w0 F0 (blk g (pmO 3 nd p.n p.le p.av p.L d.1 d.2 0 0) :: memA T m ws lg :: L) w := h
      simp only [stepP]
      by_cases hc : ws.getD p.av 0 < p.n
      · rw [if_pos hc, decide_eq_true hc]
        refine (pStep_go _ _ _ _ _ _ _ _ (acc2_no _ hav rfl hc hl h) h).mono ?_
        rintro e w' ⟨rfl, hO⟩
        exact ⟨rfl, out _ (ws.getD p.av 0, d.2) hO⟩
      · rw [if_neg hc, decide_eq_false hc]
        refine (pStep_go _ _ _ _ _ _ _ _ (acc2_yes _ hav rfl (by omega) (by omega) (by omega) L0 L1 hl h) h).mono ?_
        rintro e w' ⟨rfl, hO⟩
        exact ⟨rfl, out _ d hO⟩
    | 3, _ =>
      have h33 := h3 rfl
      have h : Own w0 F0 (blk g (pmO 4 nd p.n p.le p.av p.L a e 0 0) :: memA T m ws lg :: L) w := h
      simp only [stepP]
      have es : a - p.n - e = a - (p.n + e) := by omega
      by_cases hc : ws.getD p.av 0 = a
      · rw [if_pos hc, es]
        by_cases hz : e = 0
        · subst hz
          refine (pStep_go _ _ _ _ _ _ _ _ (acc3_yes hav hc (by omega) (by omega) 0 rfl (by omega) (by omega) (by omega) hl h) h).mono ?_
          rintro e w' ⟨rfl, hO⟩
          exact ⟨rfl, out _ (a, 0) hO⟩
        · refine (pStep_go _ _ _ _ _ _ _ _ (acc3_yes hav hc (by omega) (by omega) 5 (if_neg hz) (by omega) (by omega) (by omega) hl h) h).mono ?_
          rw [if_neg hz, decide_eq_false hz]
          rintro e w' ⟨rfl, hO⟩
          exact ⟨rfl, out _ (a, 0) hO⟩
      · rw [if_neg hc, es]
        refine (pStep_go _ _ _ _ _ _ _ _ (acc3_no hav hc (by omega) (by omega) _ rfl (by omega) (by omega) (by omega) hl h) h).mono ?_
        rintro e' w' ⟨rfl, hO⟩
        exact ⟨rfl, out _ (a, e) hO⟩
    | 4, _ =>
      have he4 := he (by decide) (by decide)
      have h : Own w0 F0 (blk g (pmO 5 nd p.n p.le p.av p.L d.1 e 0 0) :: memA T m ws lg :: L) w := h
      simp only [stepP]
      by_cases hc : ws.getD p.le 0 + e ≤ p.L
      · rw [if_pos hc]
        refine (pStep_go _ _ _ _ _ _ _ _ (acc4_yes _ hle rfl hc (by omega) (by omega) hl h) h).mono ?_
        rintro e w' ⟨rfl, hO⟩
        exact ⟨rfl, out _ d hO⟩
      · rw [if_neg hc]
        refine (pStep_go _ _ _ _ _ _ _ _ (acc4_no _ hle rfl (by omega) (by omega) (by omega) hl h) h).mono ?_
        rintro e w' ⟨rfl, hO⟩
        exact ⟨rfl, out _ (ws.getD p.le 0, 0) hO⟩
    | 5, _ =>
      have he4 := he (by decide) (by decide)
      have h55 := h5 rfl
      have h : Own w0 F0 (blk g (pmO 6 nd p.n p.le p.av p.L l e 0 0) :: memA T m ws lg :: L) w := h
      simp only [stepP]
      have es : l + e = l - -e := by omega
      by_cases hc : ws.getD p.le 0 = l
      · rw [if_pos hc, es]
        refine (pStep_go _ _ _ _ _ _ _ _ (acc5_yes hle hc (by omega) (by omega) (by omega) (by omega) hl h) h).mono ?_
        rintro e' w' ⟨rfl, hO⟩
        exact ⟨rfl, out _ (l, e) hO⟩
      · rw [if_neg hc, es]
        refine (pStep_go _ _ _ _ _ _ _ _ (acc5_no hle hc (by omega) (by omega) (by omega) (by omega) hl h) h).mono ?_
        rintro e' w' ⟨rfl, hO⟩
        exact ⟨rfl, out _ (l, e) hO⟩
    | 6, _ =>
      have h : Own w0 F0 (blk g (pmO 7 nd p.n p.le p.av p.L d.1 e 0 0) :: memA T m ws lg :: L) w := h
      simp only [stepP]
      refine (pStep_go _ _ _ _ _ _ _ _ (acc6_any hav hl h) h).mono ?_
      rintro e' w' ⟨rfl, hO⟩
      exact ⟨rfl, out _ (d.1, e) hO⟩
    | k + 7, hk => omega
  · have h : Own w0 F0 (blk g (pmO 0 nd p.n p.le p.av p.L d.1 d.2 (if r = true then 4 else 0) (if r = true then nd else 0)) :: memA T m ws lg :: L) w := h
    refine (pStep_go (L := L) (.pointer (some ⟨m, 0, none⟩)) 0 0 d.1 d.2 (if r = true then 4 else 0) (if r = true then nd else 0) (memA T m ws lg) ((acc9_any _ h).mono ?_) h).mono ?_
    · rintro e w' ⟨rfl, rfl⟩; exact ⟨rfl, h⟩
    · rintro e w' ⟨rfl, hO⟩
      exact ⟨rfl, out _ d hO⟩
end Go.Proofs.YtjohngpbggendaaGreat
end
section
/- pool.New, Ans, Left. -/
namespace Go.Proofs.YtjohngpbggendaaGreat
open Go.ChangeShapes Go.WideShapes Go.ChangeAt Go.RowKit Go.Shelf
set_option linter.unusedVariables false
set_option linter.unusedSimpArgs false
set_option maxRecDepth 100000
variable {w0 w w' : World} {F0 : Nat → Prop} {L : List Asn} {T : TypeId} {m : Nat} {ws : List Int} {lg : List Acc} {pp pl : Option Addr} {np cp nl cl : Nat}
set_option maxHeartbeats 1000000 in
theorem pNew_any (c : Cf) (hs : Sm c) (v n s : Int) (v0 : 0 ≤ v) (v1 : v ≤ 12) (s0 : 0 ≤ s) (s1 : s ≤ 8) (h : Own w0 F0 L w) :
    Calls Tryz.prog 131 #[cfV c (.slice pp np cp) (.slice pl nl cl), .int .i64 v, .int .i64 n, .int .i64 s] w fun e w' =>
      ∃ g, e = .returned (.pointer (some ⟨g, 0, none⟩)) ∧ Own w0 F0 (blk g (pmO 1 v n (lim c v + 2 + s) (lim c v + 1) c.le 0 0 0 0) :: L) w' := by
  have H1 := fun w => Lib.hid (Lease_q (pp := pp) (np := np) (cp := cp) (pl := pl) (nl := nl) (cl := cl) c hs v v0 v1 s s0 s1 w)
  have H2 := fun w => Lib.hid (Avail_q (pp := pp) (np := np) (cp := cp) (pl := pl) (nl := nl) (cl := cl) c hs v v0 v1 w)
  have h1 := h.new (cfO c (.slice pp np cp) (.slice pl nl cl))
  obtain ⟨d0, d1, d2, d3, d4, d5, d6, d7⟩ := conf_cells h1
  have hO := h1.drew
  clear h h1 hs
  generalize lim c v = q at *
  go_enter Tryz.func131, Tryz.ntmps131
  go_wp2_with fail
  go_region_held3 (fun w' => w'.cell? ⟨w.heap.size, 0, none⟩ = some (.int .i64 c.th) ∧ w'.cell? ⟨w.heap.size, 1, none⟩ = some (.int .i64 c.st) ∧ w'.cell? ⟨w.heap.size, 2, none⟩ = some (.int .i64 c.ga) ∧ w'.cell? ⟨w.heap.size, 3, none⟩ = some (.int .i64 c.le) ∧ w'.cell? ⟨w.heap.size, 4, none⟩ = some (.int .i64 c.re) ∧ w'.cell? ⟨w.heap.size, 5, none⟩ = some (.int .i64 c.ti) ∧ w'.cell? ⟨w.heap.size, 6, none⟩ = some (.slice pp np cp) ∧ w'.cell? ⟨w.heap.size, 7, none⟩ = some (.slice pl nl cl)) (go_keep) (first | (go_at_call 80; refine (H1 _).out.mono ?_; rintro e w' ⟨rfl, hB⟩; have hO := Own.below (by with_reducible assumption) hB; obtain ⟨d0, d1, d2, d3, d4, d5, d6, d7⟩ := conf_cells hO; have e0 := World.new_ne w' _ d0; have hlt := World.block_lt_of_cell? w' _ d0) | (go_at_call 79; refine (H2 _).out.mono ?_; rintro e w' ⟨rfl, hB⟩; have hO := Own.below (by with_reducible assumption) hB; obtain ⟨d0, d1, d2, d3, d4, d5, d6, d7⟩ := conf_cells hO; have e0 := World.new_ne w' _ d0; have hlt := World.block_lt_of_cell? w' _ d0))
  all_goals
    have hF := Lib.hid ((hO.drop).new (pmO 1 v n (q + 2 + s) (q + 1) c.le 0 0 0 0))
    unfold pmO at hF
    clear hO
    go_wp2_with fail
    go_ret
    exact ⟨_, rfl, hF.out⟩
theorem pAns_b {g : Nat} {nx nd n le av mo wa ex er an : Int} (h : Own w0 F0 (blk g (pmO nx nd n le av mo wa ex er an) :: L) w) :
    Calls Tryz.prog 231 #[.pointer (some ⟨g, 0, none⟩)] w fun e w' => e = .returned (ansV er 0 false an) ∧ Below w.heap.size w w' := by
  obtain ⟨c0, c1, c2, c3, c4, c5, c6, c7, c8, c9, c10, c11, cf⟩ := pmCells h
  have hg : g < w.heap.size := h.inHeap
  have A3 : ∀ o, (w.alloc o).cell? ⟨g, 8, none⟩ = some (.int .i64 er) := fun o => (World.cell?_alloc_lt _ _ _ hg).trans c8
  have A4 : ∀ o, (w.alloc o).cell? ⟨g, 9, none⟩ = some (.int .i64 0) := fun o => (World.cell?_alloc_lt _ _ _ hg).trans c9
  have A5 : ∀ o, (w.alloc o).cell? ⟨g, 10, none⟩ = some (.bool false) := fun o => (World.cell?_alloc_lt _ _ _ hg).trans c10
  have A6 : ∀ o, (w.alloc o).cell? ⟨g, 11, none⟩ = some (.int .i64 an) := fun o => (World.cell?_alloc_lt _ _ _ hg).trans c11
  have hB := Lib.hid (fun y z u v => ((Own.start w).alloc (.cells #[y, z, u, v] 53)).toBelow)
  have fe : ∀ w : World, (binOp .eql 160 (.pointer (some ⟨g, 0, none⟩)) (.pointer none)).run Tryz.prog w = .ok (.bool false) w := fun w => by kernel_rfl
  unfold ansV
  clear h
  go_enter Tryz.func231, Tryz.ntmps231
  go_wp2_with fail
  (try simp only [Exit.inBlock, Exit.then])
  refine bodyPost_ret (by simp [results, Tryz.results231, go_sem, *]; try rfl) rfl ?_
  exact ⟨rfl, hB.out _ _ _ _⟩
def erP (s : PS) : Int := if s.r = true then 4 else 0
def anP (nd : Int) (s : PS) : Int := if s.r = true then nd else 0
theorem poolAns_any {g : Nat} {nd : Int} {p : PP} {s : PS} (h : Own w0 F0 (poolA g nd p s :: L) w) :
    Calls Tryz.prog 231 #[.pointer (some ⟨g, 0, none⟩)] w fun e w' => e = .returned (ansV (erP s) 0 false (anP nd s)) ∧ Below w.heap.size w w' := by
  obtain ⟨d, h⟩ := h.exE
  exact pAns_b h
theorem poolNew_any (c : Cf) (hs : Sm c) (v n s : Int) (v0 : 0 ≤ v) (v1 : v ≤ 12) (s0 : 0 ≤ s) (s1 : s ≤ 8) (p : PP) (p0 : (p.av : Int) = lim c v + 1) (p1 : (p.le : Int) = lim c v + 2 + s) (p2 : p.n = n) (p3 : p.L = c.le) (h : Own w0 F0 L w) :
    Calls Tryz.prog 131 #[cfV c (.slice pp np cp) (.slice pl nl cl), .int .i64 v, .int .i64 n, .int .i64 s] w fun e w' =>
      ∃ g, e = .returned (.pointer (some ⟨g, 0, none⟩)) ∧ Own w0 F0 (poolA g v p s0P :: L) w' := by
  refine (pNew_any c hs v n s v0 v1 s0 s1 h).mono ?_
  rintro e w' ⟨g, rfl, hO⟩
  refine ⟨g, rfl, Own.exI (A := fun d => pmS g v p s0P d) (0, 0) ?_⟩
  rw [← p0, ← p1, ← p2, ← p3] at hO
  exact hO
theorem at_q {v : Value} (i : Nat) (j : Int) (hj : j = (i : Int)) (hi : i < ws.length) (hm : ws.length ≤ 1000000) (hv : IntsAt w .i64 v ws) :
    Calls Tryz.prog 78 #[v, .int .i64 j] w fun e w' => e = .returned (.int .i64 (ws.getD i 0)) ∧ w = w' := by
  obtain ⟨a, off, cap, rfl, hc⟩ := hv.at (by omega)
  have c0 := hc i hi
  have i1 : (i : Int) < ws.length := by omega
  have g1 : decide ((i : Int) < 0) = false := by simp
  have g2 : decide ((ws.length : Int) ≤ i) = false := by simp; omega
  subst hj
  generalize ws.getD i 0 = y at c0 ⊢
  clear hc hv
  go_enter Tryz.func78, Tryz.ntmps78
  go_wp2_with fail
  go_ret
  exact ⟨rfl, rfl⟩
/-- What is left of a pool, by the stripes so far. -/
def lwN (av : Nat) (k : Nat) : Nat := av + 1 + k
theorem leftP_succ (av : Nat) (k : Nat) (ws : List Int) : leftP av (lwN av) (k + 1) ws = leftP av (lwN av) k ws + ws.getD (av + 1 + k) 0 := by
  unfold leftP; rw [sK]; unfold lwN; omega
theorem leftP_bd {av S : Nat} {ws : List Int} (hb : ∀ k, k ≤ S → 0 ≤ ws.getD (av + k) 0 ∧ ws.getD (av + k) 0 ≤ 1125899906842624) : ∀ k, k ≤ S → 0 ≤ leftP av (lwN av) k ws ∧ leftP av (lwN av) k ws ≤ 1125899906842624 * ((k : Int) + 1)
  | 0, _ => by
    have := hb 0 (by omega)
    rw [Nat.add_zero] at this
    have e : leftP av (lwN av) 0 ws = ws.getD av 0 := by unfold leftP; rw [sK]; omega
    rw [e]; omega
  | k + 1, hk => by
    have h1 := leftP_bd hb k (by omega)
    have h2 := hb (k + 1) hk
    rw [show av + (k + 1) = av + 1 + k by omega] at h2
    rw [leftP_succ]; omega
set_option maxHeartbeats 1000000 in
theorem Left_any (c : Cf) (hs : Sm c) (v : Int) (v0 : 0 ≤ v) (v1 : v ≤ 12) (av S : Nat) (p0 : lim c v + 1 = (av : Int)) (hS : c.st = (S : Int)) (hl : av + S < ws.length) (hm : ws.length ≤ 1000000) (hb : ∀ k, k ≤ S → 0 ≤ ws.getD (av + k) 0 ∧ ws.getD (av + k) 0 ≤ 1125899906842624)
    (h : Own w0 F0 (memA T m ws lg :: L) w) :
    Calls Tryz.prog 40 #[.pointer (some ⟨m, 0, none⟩), cfV c (.slice pp np cp) (.slice pl nl cl), .int .i64 v] w fun e w' => e = .returned (.int .i64 (leftP av (lwN av) S ws)) ∧ Below w.heap.size w w' := by
  have hS8 := hs.2
  have hS1 := hs.1
  have HA := fun w => Lib.hid (Avail_q (pp := pp) (np := np) (cp := cp) (pl := pl) (nl := nl) (cl := cl) c hs v v0 v1 w)
  have HL := fun s s0 s1 w => Lib.hid (Lease_q (pp := pp) (np := np) (cp := cp) (pl := pl) (nl := nl) (cl := cl) c hs v v0 v1 s s0 s1 w)
  have h1 := (Own.start w).new (cfO c (.slice pp np cp) (.slice pl nl cl))
  have HW := Lib.hid (Words_b hm (h.alloc (cfO c (.slice pp np cp) (.slice pl nl cl))))
  have HT := fun w v i j hj hi hv => Lib.hid (at_q (w := w) (v := v) (ws := ws) i j hj hi hm hv)
  have H1 := Lib.hid h1
  have HP := Lib.hid p0
  have HS := Lib.hid hS
  have Hb := Lib.hid hb
  obtain ⟨d0, d1, d2, d3, d4, d5, d6, d7⟩ := conf_cells h1
  have hSN : S ≤ 8 := by omega
  clear h h1 hs p0 hb hS
  go_enter Tryz.func40, Tryz.ntmps40
  go_wp2_with fail
  generalize w.heap.size = C at *
  refine HW.out.mono ?_
  rintro e w2 ⟨vr, rfl, hO⟩
  have hI := hO.intsAt
  have h2 := H1.out.below hO.toBelow
  have H2 := Lib.hid h2
  have HI := Lib.hid hI
  clear d0 d1 d2 d3 d4 d5 d6 d7 hO hI HW H1
  obtain ⟨d0, d1, d2, d3, d4, d5, d6, d7⟩ := conf_cells h2
  clear h2
  go_wp2_with fail
  refine (HA _).out.mono ?_
  rintro e w3 ⟨rfl, hB⟩
  have H3 := Lib.hid (H2.out.below hB)
  have HI3 := Lib.hid (HI.out.below hB)
  clear H2 HI hB d0 d1 d2 d3 d4 d5 d6 d7
  rw [HP.out]
  have HT1 := HT w3 vr av av rfl (by omega) HI3.out
  clear HA
  go_wp2_with fail
  refine HT1.out.mono ?_
  rintro e w4 ⟨rfl, rfl⟩
  clear HT1
  obtain ⟨d0, d1, d2, d3, d4, d5, d6, d7⟩ := conf_cells H3.out
  have hmin : (if (8 : Int) < c.st then (8 : Int) else c.st) = c.st := if_neg (by omega)
  have hmin2 : (if c.st < (8 : Int) then c.st else 8) = c.st := by split <;> omega
  have H0 := Lib.hid (show ws.getD av 0 = leftP av (lwN av) 0 ws by unfold leftP; rw [sK]; omega)
  rw [H0.out]
  go_wp2_with fail
  clear d0 d1 d2 d3 d4 d5 d6 d7 H0
  go_loopw [8, 9, 20] (fun v8 v9 v20 wr => ∃ k : Nat, (k : Int) ≤ c.st ∧ v8 = .int .i64 (leftP av (lwN av) k ws) ∧ v20 = .int .i64 k ∧ Own w (fun _ => False) [blk C (cfO c (.slice pp np cp) (.slice pl nl cl))] wr ∧ IntsAt wr .i64 vr ws) (fun v8 v9 v20 _ => S - (intOf v20).toNat)
  case atStart => exact ⟨0, by omega, rfl, rfl, H3.out, HI3.out⟩
  case round =>
    obtain ⟨k, hk, rfl, rfl, hO, hI⟩ := hrel
    clear H3 HI3
    obtain ⟨d0, d1, d2, d3, d4, d5, d6, d7⟩ := conf_cells hO
    have HO := Lib.hid hO
    have HI := Lib.hid hI
    clear hO hI
    by_cases hlt : (k : Int) < c.st
    · have hkS : k < S := by have := HS.out; omega
      have HLk := fun w => HL k (by omega) (by omega) w
      have hbk := leftP_bd Hb.out k (by omega)
      have hb1 := Hb.out (k + 1) (by omega)
      rw [show av + (k + 1) = av + 1 + k by omega] at hb1
      have Hs := Lib.hid (leftP_succ av k ws)
      go_wp2_with fail
      refine (HLk _).out.mono ?_
      rintro e w5 ⟨rfl, hB⟩
      have H3 := Lib.hid (HO.out.below hB)
      have HI3 := Lib.hid (HI.out.below hB)
      clear HO HI hB d0 d1 d2 d3 d4 d5 d6 d7 HLk
      have hx : lim c v + 2 + (k : Int) = ((av + 1 + k : Nat) : Int) := by have := HP.out; omega
      rw [hx]
      have HT1 := HT w5 vr (av + 1 + k) ((av + 1 + k : Nat) : Int) rfl (by omega) HI3.out
      clear hx
      go_wp2_with fail
      refine HT1.out.mono ?_
      rintro e w6 ⟨rfl, rfl⟩
      clear HT1
      generalize leftP av (lwN av) k ws = s0 at *
      generalize ws.getD (av + 1 + k) 0 = y at *
      go_wp2_with fail
      go_roundw
      case rel => exact ⟨k + 1, by omega, by rw [Hs.out], by go_num, H3.out, HI3.out⟩
      case measure => simp [intOf]; omega
    · have hkS : k = S := by have := HS.out; omega
      subst hkS
      have hB := Lib.hid HO.out.toBelow
      go_wp2_with fail
      go_ret
      exact ⟨rfl, hB.out⟩
end Go.Proofs.YtjohngpbggendaaGreat
end
