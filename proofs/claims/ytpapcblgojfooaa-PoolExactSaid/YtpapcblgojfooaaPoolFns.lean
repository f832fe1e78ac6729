/- pool.New, Ans, Left. -/
import Derived.Test.YtpapcblgojfooaaPoolSteps
import Derived.Test.YtpapcblgojfooaaPlanFresh
import Derived.Test.YtpapcblgojfooaaMemBelow
import Derived.Test.YtpapcblgojfooaaBase8
namespace Go.Proofs.Ytpapcblgojfooaa
open Go.ChangeShapes Go.WideShapes Go.ChangeAt Go.RowKit Go.Shelf
set_option linter.unusedVariables false
set_option linter.unusedSimpArgs false
set_option maxRecDepth 100000
variable {w0 w w' : World} {F0 : Nat → Prop} {L : List Asn} {T : TypeId} {m : Nat} {ws : List Int} {lg : List Acc} {pp pl : Option Addr} {np cp nl cl : Nat}
set_option maxHeartbeats 1000000 in
theorem pNew_any (c : Cf) (hs : Sm c) (v n s : Int) (v0 : 0 ≤ v) (v1 : v ≤ 12) (s0 : 0 ≤ s) (s1 : s ≤ 8) (h : Own w0 F0 L w) :
    Calls Try.prog 15 #[cfV c (.slice pp np cp) (.slice pl nl cl), .int .i64 v, .int .i64 n, .int .i64 s] w fun e w' =>
      ∃ g, e = .returned (.pointer (some ⟨g, 0, none⟩)) ∧ Own w0 F0 (blk g (pmO 1 v n (lim c v + 2 + s) (lim c v + 1) c.le 0 0 0 0) :: L) w' := by
  have H1 := fun w => Lib.hid (Lease_q (pp := pp) (np := np) (cp := cp) (pl := pl) (nl := nl) (cl := cl) c hs v v0 v1 s s0 s1 w)
  have H2 := fun w => Lib.hid (Avail_q (pp := pp) (np := np) (cp := cp) (pl := pl) (nl := nl) (cl := cl) c hs v v0 v1 w)
  have h1 := h.new (cfO c (.slice pp np cp) (.slice pl nl cl))
  obtain ⟨d0, d1, d2, d3, d4, d5, d6, d7⟩ := conf_cells h1
  have hO := h1.drew
  clear h h1 hs
  generalize lim c v = q at *
  go_enter Try.func15, Try.ntmps15
  go_wp2_with fail
  go_region_held3 (fun w' => w'.cell? ⟨w.heap.size, 0, none⟩ = some (.int .i64 c.th) ∧ w'.cell? ⟨w.heap.size, 1, none⟩ = some (.int .i64 c.st) ∧ w'.cell? ⟨w.heap.size, 2, none⟩ = some (.int .i64 c.ga) ∧ w'.cell? ⟨w.heap.size, 3, none⟩ = some (.int .i64 c.le) ∧ w'.cell? ⟨w.heap.size, 4, none⟩ = some (.int .i64 c.re) ∧ w'.cell? ⟨w.heap.size, 5, none⟩ = some (.int .i64 c.ti) ∧ w'.cell? ⟨w.heap.size, 6, none⟩ = some (.slice pp np cp) ∧ w'.cell? ⟨w.heap.size, 7, none⟩ = some (.slice pl nl cl)) (go_keep) (first | (go_at_call 28; refine (H1 _).out.mono ?_; rintro e w' ⟨rfl, hB⟩; have hO := Own.below (by with_reducible assumption) hB; obtain ⟨d0, d1, d2, d3, d4, d5, d6, d7⟩ := conf_cells hO; have e0 := World.new_ne w' _ d0; have hlt := World.block_lt_of_cell? w' _ d0) | (go_at_call 27; refine (H2 _).out.mono ?_; rintro e w' ⟨rfl, hB⟩; have hO := Own.below (by with_reducible assumption) hB; obtain ⟨d0, d1, d2, d3, d4, d5, d6, d7⟩ := conf_cells hO; have e0 := World.new_ne w' _ d0; have hlt := World.block_lt_of_cell? w' _ d0))
  all_goals
    have hF := Lib.hid ((hO.drop).new (pmO 1 v n (q + 2 + s) (q + 1) c.le 0 0 0 0))
    unfold pmO at hF
    clear hO
    go_wp2_with fail
    go_ret
    exact ⟨_, rfl, hF.out⟩
theorem pAns_b {g : Nat} {nx nd n le av mo wa ex er an : Int} (h : Own w0 F0 (blk g (pmO nx nd n le av mo wa ex er an) :: L) w) :
    Calls Try.prog 19 #[.pointer (some ⟨g, 0, none⟩)] w fun e w' => e = .returned (ansV er 0 false an) ∧ Below w.heap.size w w' := by
  obtain ⟨c0, c1, c2, c3, c4, c5, c6, c7, c8, c9, c10, c11, cf⟩ := pmCells h
  have hg : g < w.heap.size := h.inHeap
  have A3 : ∀ o, (w.alloc o).cell? ⟨g, 8, none⟩ = some (.int .i64 er) := fun o => (World.cell?_alloc_lt _ _ _ hg).trans c8
  have A4 : ∀ o, (w.alloc o).cell? ⟨g, 9, none⟩ = some (.int .i64 0) := fun o => (World.cell?_alloc_lt _ _ _ hg).trans c9
  have A5 : ∀ o, (w.alloc o).cell? ⟨g, 10, none⟩ = some (.bool false) := fun o => (World.cell?_alloc_lt _ _ _ hg).trans c10
  have A6 : ∀ o, (w.alloc o).cell? ⟨g, 11, none⟩ = some (.int .i64 an) := fun o => (World.cell?_alloc_lt _ _ _ hg).trans c11
  have hB := Lib.hid (fun y z u v => ((Own.start w).alloc (.cells #[y, z, u, v] 51)).toBelow)
  have fe : ∀ w : World, (binOp .eql 42 (.pointer (some ⟨g, 0, none⟩)) (.pointer none)).run Try.prog w = .ok (.bool false) w := fun w => by kernel_rfl
  unfold ansV
  clear h
  go_enter Try.func19, Try.ntmps19
  go_wp2_with fail
  (try simp only [Exit.inBlock, Exit.then])
  refine bodyPost_ret (by simp [results, Try.results19, go_sem, *]; try rfl) rfl ?_
  exact ⟨rfl, hB.out _ _ _ _⟩
def erP (s : PS) : Int := if s.r = true then 4 else 0
def anP (nd : Int) (s : PS) : Int := if s.r = true then nd else 0
theorem poolAns_any {g : Nat} {nd : Int} {p : PP} {s : PS} (h : Own w0 F0 (poolA g nd p s :: L) w) :
    Calls Try.prog 19 #[.pointer (some ⟨g, 0, none⟩)] w fun e w' => e = .returned (ansV (erP s) 0 false (anP nd s)) ∧ Below w.heap.size w w' := by
  obtain ⟨d, h⟩ := h.exE
  exact pAns_b h
theorem poolNew_any (c : Cf) (hs : Sm c) (v n s : Int) (v0 : 0 ≤ v) (v1 : v ≤ 12) (s0 : 0 ≤ s) (s1 : s ≤ 8) (p : PP) (p0 : (p.av : Int) = lim c v + 1) (p1 : (p.le : Int) = lim c v + 2 + s) (p2 : p.n = n) (p3 : p.L = c.le) (h : Own w0 F0 L w) :
    Calls Try.prog 15 #[cfV c (.slice pp np cp) (.slice pl nl cl), .int .i64 v, .int .i64 n, .int .i64 s] w fun e w' =>
      ∃ g, e = .returned (.pointer (some ⟨g, 0, none⟩)) ∧ Own w0 F0 (poolA g v p s0P :: L) w' := by
  refine (pNew_any c hs v n s v0 v1 s0 s1 h).mono ?_
  rintro e w' ⟨g, rfl, hO⟩
  refine ⟨g, rfl, Own.exI (A := fun d => pmS g v p s0P d) (0, 0) ?_⟩
  rw [← p0, ← p1, ← p2, ← p3] at hO
  exact hO
theorem at_q {v : Value} (i : Nat) (j : Int) (hj : j = (i : Int)) (hi : i < ws.length) (hm : ws.length ≤ 1000000) (hv : IntsAt w .i64 v ws) :
    Calls Try.prog 48 #[v, .int .i64 j] w fun e w' => e = .returned (.int .i64 (ws.getD i 0)) ∧ w = w' := by
  obtain ⟨a, off, cap, rfl, hc⟩ := hv.at (by omega)
  have c0 := hc i hi
  have i1 : (i : Int) < ws.length := by omega
  have g1 : decide ((i : Int) < 0) = false := by simp
  have g2 : decide ((ws.length : Int) ≤ i) = false := by simp; omega
  subst hj
  generalize ws.getD i 0 = y at c0 ⊢
  clear hc hv
  go_enter Try.func48, Try.ntmps48
  go_wp2_with fail
  go_ret
  exact ⟨rfl, rfl⟩
/-- What is left of a pool, by the stripes so far. -/
def lwN (av : Nat) (k : Nat) : Nat := av + 1 + k
theorem leftP_succ (av : Nat) (k : Nat) (ws : List Int) : leftP av (lwN av) (k + 1) ws = leftP av (lwN av) k ws + ws.getD (av + 1 + k) 0 := by
  unfold leftP; rw [sK]; unfold lwN; omega
theorem leftP_bd {av S : Nat} {ws : List Int} (hb : ∀ k, k ≤ S → 0 ≤ ws.getD (av + k) 0 ∧ ws.getD (av + k) 0 ≤ 1125899906842624) : ∀ k, k ≤ S → 0 ≤ leftP av (lwN av) k ws ∧ leftP av (lwN av) k ws ≤ 1125899906842624 * ((k : Int) + 1)
  | 0, _ => by
    have := hb 0 (by omega)
    rw [Nat.add_zero] at this
    have e : leftP av (lwN av) 0 ws = ws.getD av 0 := by unfold leftP; rw [sK]; omega
    rw [e]; omega
  | k + 1, hk => by
    have h1 := leftP_bd hb k (by omega)
    have h2 := hb (k + 1) hk
    rw [show av + (k + 1) = av + 1 + k by omega] at h2
    rw [leftP_succ]; omega
set_option maxHeartbeats 1000000 in
theorem Left_any (c : Cf) (hs : Sm c) (v : Int) (v0 : 0 ≤ v) (v1 : v ≤ 12) (av S : Nat) (p0 : lim c v + 1 = (av : Int)) (hS : c.st = (S : Int)) (hl : av + S < ws.length) (hm : ws.length ≤ 1000000) (hb : ∀ k, k ≤ S → 0 ≤ ws.getD (av + k) 0 ∧ ws.getD (av + k) 0 ≤ 1125899906842624)
    (h : Own w0 F0 (memA T m ws lg :: L) w) :
    Calls Try.prog 25 #[.pointer (some ⟨m, 0, none⟩), cfV c (.slice pp np cp) (.slice pl nl cl), .int .i64 v] w fun e w' => e = .returned (.int .i64 (leftP av (lwN av) S ws)) ∧ Below w.heap.size w w' := by
  have hS8 := hs.2
  have hS1 := hs.1
  have HA := fun w => Lib.hid (Avail_q (pp := pp) (np := np) (cp := cp) (pl := pl) (nl := nl) (cl := cl) c hs v v0 v1 w)
  have HL := fun s s0 s1 w => Lib.hid (Lease_q (pp := pp) (np := np) (cp := cp) (pl := pl) (nl := nl) (cl := cl) c hs v v0 v1 s s0 s1 w)
  have h1 := (Own.start w).new (cfO c (.slice pp np cp) (.slice pl nl cl))
  have HW := Lib.hid (Words_b hm (h.alloc (cfO c (.slice pp np cp) (.slice pl nl cl))))
  have HT := fun w v i j hj hi hv => Lib.hid (at_q (w := w) (v := v) (ws := ws) i j hj hi hm hv)
  have H1 := Lib.hid h1
  have HP := Lib.hid p0
  have HS := Lib.hid hS
  have Hb := Lib.hid hb
  obtain ⟨d0, d1, d2, d3, d4, d5, d6, d7⟩ := conf_cells h1
  have hSN : S ≤ 8 := by omega
  clear h h1 hs p0 hb hS
  go_enter Try.func25, Try.ntmps25
  go_wp2_with fail
  generalize w.heap.size = C at *
  refine HW.out.mono ?_
  rintro e w2 ⟨vr, rfl, hO⟩
  have hI := hO.intsAt
  have h2 := H1.out.below hO.toBelow
  have H2 := Lib.hid h2
  have HI := Lib.hid hI
  clear d0 d1 d2 d3 d4 d5 d6 d7 hO hI HW H1
  obtain ⟨d0, d1, d2, d3, d4, d5, d6, d7⟩ := conf_cells h2
  clear h2
  go_wp2_with fail
  refine (HA _).out.mono ?_
  rintro e w3 ⟨rfl, hB⟩
  have H3 := Lib.hid (H2.out.below hB)
  have HI3 := Lib.hid (HI.out.below hB)
  clear H2 HI hB d0 d1 d2 d3 d4 d5 d6 d7
  rw [HP.out]
  have HT1 := HT w3 vr av av rfl (by omega) HI3.out
  clear HA
  go_wp2_with fail
  refine HT1.out.mono ?_
  rintro e w4 ⟨rfl, rfl⟩
  clear HT1
  obtain ⟨d0, d1, d2, d3, d4, d5, d6, d7⟩ := conf_cells H3.out
  have hmin : (if (8 : Int) < c.st then (8 : Int) else c.st) = c.st := if_neg (by omega)
  have hmin2 : (if c.st < (8 : Int) then c.st else 8) = c.st := by split <;> omega
  have H0 := Lib.hid (show ws.getD av 0 = leftP av (lwN av) 0 ws by unfold leftP; rw [sK]; omega)
  rw [H0.out]
  go_wp2_with fail
  clear d0 d1 d2 d3 d4 d5 d6 d7 H0
  go_loopw [8, 9, 20] (fun v8 v9 v20 wr => ∃ k : Nat, (k : Int) ≤ c.st ∧ v8 = .int .i64 (leftP av (lwN av) k ws) ∧ v20 = .int .i64 k ∧ Own w (fun _ => False) [blk C (cfO c (.slice pp np cp) (.slice pl nl cl))] wr ∧ IntsAt wr .i64 vr ws) (fun v8 v9 v20 _ => S - (intOf v20).toNat)
  case atStart => exact ⟨0, by omega, rfl, rfl, H3.out, HI3.out⟩
  case round =>
    obtain ⟨k, hk, rfl, rfl, hO, hI⟩ := hrel
    clear H3 HI3
    obtain ⟨d0, d1, d2, d3, d4, d5, d6, d7⟩ := conf_cells hO
    have HO := Lib.hid hO
    have HI := Lib.hid hI
    clear hO hI
    by_cases hlt : (k : Int) < c.st
    · have hkS : k < S := by have := HS.out; omega
      have HLk := fun w => HL k (by omega) (by omega) w
      have hbk := leftP_bd Hb.out k (by omega)
      have hb1 := Hb.out (k + 1) (by omega)
      rw [show av + (k + 1) = av + 1 + k by omega] at hb1
      have Hs := Lib.hid (leftP_succ av k ws)
      go_wp2_with fail
      refine (HLk _).out.mono ?_
      rintro e w5 ⟨rfl, hB⟩
      have H3 := Lib.hid (HO.out.below hB)
      have HI3 := Lib.hid (HI.out.below hB)
      clear HO HI hB d0 d1 d2 d3 d4 d5 d6 d7 HLk
      have hx : lim c v + 2 + (k : Int) = ((av + 1 + k : Nat) : Int) := by have := HP.out; omega
      rw [hx]
      have HT1 := HT w5 vr (av + 1 + k) ((av + 1 + k : Nat) : Int) rfl (by omega) HI3.out
      clear hx
      go_wp2_with fail
      refine HT1.out.mono ?_
      rintro e w6 ⟨rfl, rfl⟩
      clear HT1
      generalize leftP av (lwN av) k ws = s0 at *
      generalize ws.getD (av + 1 + k) 0 = y at *
      go_wp2_with fail
      go_roundw
      case rel => exact ⟨k + 1, by omega, by rw [Hs.out], by go_num, H3.out, HI3.out⟩
      case measure => simp [intOf]; omega
    · have hkS : k = S := by have := HS.out; omega
      subst hkS
      have hB := Lib.hid HO.out.toBelow
      go_wp2_with fail
      go_ret
      exact ⟨rfl, hB.out⟩
end Go.Proofs.Ytpapcblgojfooaa
