/- Texts of elder layers, one behind the other: PoolFns, ShiftMath. -/
import Derived.Test.YtjohngpbggendaaGreatB13
import Derived.Test.YtjohngpbggendaaGreatB28
section
/- pool.New, Ans, Left. -/
namespace Go.Proofs.YtjohngpbggendaaGreat
open Go.ChangeShapes Go.WideShapes Go.ChangeAt Go.RowKit Go.Shelf
set_option linter.unusedVariables false
set_option linter.unusedSimpArgs false
set_option maxRecDepth 100000
variable {w0 w w' : World} {F0 : Nat → Prop} {L : List Asn} {T : TypeId} {m : Nat} {ws : List Int} {lg : List Acc} {pp pl : Option Addr} {np cp nl cl : Nat}
set_option maxHeartbeats 1000000 in
theorem pNew_any (c : Cf) (hs : Sm c) (v n s : Int) (v0 : 0 ≤ v) (v1 : v ≤ 12) (s0 : 0 ≤ s) (s1 : s ≤ 8) (h : Own w0 F0 L w) :
    Calls Tryz.prog 131 #[cfV c (.slice pp np cp) (.slice pl nl cl), .int .i64 v, .int .i64 n, .int .i64 s] w fun e w' =>
      ∃ g, e = .returned (.pointer (some ⟨g, 0, none⟩)) ∧ Own w0 F0 (blk g (pmO 1 v n (lim c v + 2 + s) (lim c v + 1) c.le 0 0 0 0) :: L) w' := by
  have H1 := fun w => Lib.hid (Lease_q (pp := pp) (np := np) (cp := cp) (pl := pl) (nl := nl) (cl := cl) c hs v v0 v1 s s0 s1 w)
  have H2 := fun w => Lib.hid (Avail_q (pp := pp) (np := np) (cp := cp) (pl := pl) (nl := nl) (cl := cl) c hs v v0 v1 w)
  have h1 := h.new (cfO c (.slice pp np cp) (.slice pl nl cl))
  obtain ⟨d0, d1, d2, d3, d4, d5, d6, d7⟩ := conf_cells h1
  have hO := h1.drew
  clear h h1 hs
  generalize lim c v = q at *
  go_enter Tryz.func131, Tryz.ntmps131
  go_wp2_with fail
  go_region_held3 (fun w' => w'.cell? ⟨w.heap.size, 0, none⟩ = some (.int .i64 c.th) ∧ w'.cell? ⟨w.heap.size, 1, none⟩ = some (.int .i64 c.st) ∧ w'.cell? ⟨w.heap.size, 2, none⟩ = some (.int .i64 c.ga) ∧ w'.cell? ⟨w.heap.size, 3, none⟩ = some (.int .i64 c.le) ∧ w'.cell? ⟨w.heap.size, 4, none⟩ = some (.int .i64 c.re) ∧ w'.cell? ⟨w.heap.size, 5, none⟩ = some (.int .i64 c.ti) ∧ w'.cell? ⟨w.heap.size, 6, none⟩ = some (.slice pp np cp) ∧ w'.cell? ⟨w.heap.size, 7, none⟩ = some (.slice pl nl cl)) (go_keep) (first | (go_at_call 80; refine (H1 _).out.mono ?_; rintro e w' ⟨rfl, hB⟩; have hO := Own.below (by with_reducible assumption) hB; obtain ⟨d0, d1, d2, d3, d4, d5, d6, d7⟩ := conf_cells hO; have e0 := World.new_ne w' _ d0; have hlt := World.block_lt_of_cell? w' _ d0) | (go_at_call 79; refine (H2 _).out.mono ?_; rintro e w' ⟨rfl, hB⟩; have hO := Own.below (by with_reducible assumption) hB; obtain ⟨d0, d1, d2, d3, d4, d5, d6, d7⟩ := conf_cells hO; have e0 := World.new_ne w' _ d0; have hlt := World.block_lt_of_cell? w' _ d0))
  all_goals
    have hF := Lib.hid ((hO.drop).new (pmO 1 v n (q + 2 + s) (q + 1) c.le 0 0 0 0))
    unfold pmO at hF
    clear hO
    go_wp2_with fail
    go_ret
    exact ⟨_, rfl, hF.out⟩
theorem pAns_b {g : Nat} {nx nd n le av mo wa ex er an : Int} (h : Own w0 F0 (blk g (pmO nx nd n le av mo wa ex er an) :: L) w) :
    Calls Tryz.prog 231 #[.pointer (some ⟨g, 0, none⟩)] w fun e w' => e = .returned (ansV er 0 false an) ∧ Below w.heap.size w w' := by
  obtain ⟨c0, c1, c2, c3, c4, c5, c6, c7, c8, c9, c10, c11, cf⟩ := pmCells h
  have hg : g < w.heap.size := h.inHeap
  have A3 : ∀ o, (w.alloc o).cell? ⟨g, 8, none⟩ = some (.int .i64 er) := fun o => (World.cell?_alloc_lt _ _ _ hg).trans c8
  have A4 : ∀ o, (w.alloc o).cell? ⟨g, 9, none⟩ = some (.int .i64 0) := fun o => (World.cell?_alloc_lt _ _ _ hg).trans c9
  have A5 : ∀ o, (w.alloc o).cell? ⟨g, 10, none⟩ = some (.bool false) := fun o => (World.cell?_alloc_lt _ _ _ hg).trans c10
  have A6 : ∀ o, (w.alloc o).cell? ⟨g, 11, none⟩ = some (.int .i64 an) := fun o => (World.cell?_alloc_lt _ _ _ hg).trans c11
  have hB := Lib.hid (fun y z u v => ((Own.start w).alloc (.cells #[y, z, u, v] 53)).toBelow)
  have fe : ∀ w : World, (binOp .eql 160 (.pointer (some ⟨g, 0, none⟩)) (.pointer none)).run Tryz.prog w = .ok (.bool false) w := fun w => by kernel_rfl
  unfold ansV
  clear h
  go_enter Tryz.func231, Tryz.ntmps231
  go_wp2_with fail
  (try simp only [Exit.inBlock, Exit.then])
  refine bodyPost_ret (by simp [results, Tryz.results231, go_sem, *]; try rfl) rfl ?_
  exact ⟨rfl, hB.out _ _ _ _⟩
def erP (s : PS) : Int := if s.r = true then 4 else 0
def anP (nd : Int) (s : PS) : Int := if s.r = true then nd else 0
theorem poolAns_any {g : Nat} {nd : Int} {p : PP} {s : PS} (h : Own w0 F0 (poolA g nd p s :: L) w) :
    Calls Tryz.prog 231 #[.pointer (some ⟨g, 0, none⟩)] w fun e w' => e = .returned (ansV (erP s) 0 false (anP nd s)) ∧ Below w.heap.size w w' := by
  obtain ⟨d, h⟩ := h.exE
  exact pAns_b h
theorem poolNew_any (c : Cf) (hs : Sm c) (v n s : Int) (v0 : 0 ≤ v) (v1 : v ≤ 12) (s0 : 0 ≤ s) (s1 : s ≤ 8) (p : PP) (p0 : (p.av : Int) = lim c v + 1) (p1 : (p.le : Int) = lim c v + 2 + s) (p2 : p.n = n) (p3 : p.L = c.le) (h : Own w0 F0 L w) :
    Calls Tryz.prog 131 #[cfV c (.slice pp np cp) (.slice pl nl cl), .int .i64 v, .int .i64 n, .int .i64 s] w fun e w' =>
      ∃ g, e = .returned (.pointer (some ⟨g, 0, none⟩)) ∧ Own w0 F0 (poolA g v p s0P :: L) w' := by
  refine (pNew_any c hs v n s v0 v1 s0 s1 h).mono ?_
  rintro e w' ⟨g, rfl, hO⟩
  refine ⟨g, rfl, Own.exI (A := fun d => pmS g v p s0P d) (0, 0) ?_⟩
  rw [← p0, ← p1, ← p2, ← p3] at hO
  exact hO
theorem at_q {v : Value} (i : Nat) (j : Int) (hj : j = (i : Int)) (hi : i < ws.length) (hm : ws.length ≤ 1000000) (hv : IntsAt w .i64 v ws) :
    Calls Tryz.prog 78 #[v, .int .i64 j] w fun e w' => e = .returned (.int .i64 (ws.getD i 0)) ∧ w = w' := by
  obtain ⟨a, off, cap, rfl, hc⟩ := hv.at (by omega)
  have c0 := hc i hi
  have i1 : (i : Int) < ws.length := by omega
  have g1 : decide ((i : Int) < 0) = false := by simp
  have g2 : decide ((ws.length : Int) ≤ i) = false := by simp; omega
  subst hj
  generalize ws.getD i 0 = y at c0 ⊢
  clear hc hv
  go_enter Tryz.func78, Tryz.ntmps78
  go_wp2_with fail
  go_ret
  exact ⟨rfl, rfl⟩
/-- What is left of a pool, by the stripes so far. -/
def lwN (av : Nat) (k : Nat) : Nat := av + 1 + k
theorem leftP_succ (av : Nat) (k : Nat) (ws : List Int) : leftP av (lwN av) (k + 1) ws = leftP av (lwN av) k ws + ws.getD (av + 1 + k) 0 := by
  unfold leftP; rw [sK]; unfold lwN; omega
theorem leftP_bd {av S : Nat} {ws : List Int} (hb : ∀ k, k ≤ S → 0 ≤ ws.getD (av + k) 0 ∧ ws.getD (av + k) 0 ≤ 1125899906842624) : ∀ k, k ≤ S → 0 ≤ leftP av (lwN av) k ws ∧ leftP av (lwN av) k ws ≤ 1125899906842624 * ((k : Int) + 1)
  | 0, _ => by
    have := hb 0 (by omega)
    rw [Nat.add_zero] at this
    have e : leftP av (lwN av) 0 ws = ws.getD av 0 := by unfold leftP; rw [sK]; omega
    rw [e]; omega
  | k + 1, hk => by
    have h1 := leftP_bd hb k (by omega)
    have h2 := hb (k + 1) hk
    rw [show av + (k + 1) = av + 1 + k by omega] at h2
    rw [leftP_succ]; omega
set_option maxHeartbeats 1000000 in
theorem Left_any (c : Cf) (hs : Sm c) (v : Int) (v0 : 0 ≤ v) (v1 : v ≤ 12) (av S : Nat) (p0 : lim c v + 1 = (av : Int)) (hS : c.st = (S : Int)) (hl : av + S < ws.length) (hm : ws.length ≤ 1000000) (hb : ∀ k, k ≤ S → 0 ≤ ws.getD (av + k) 0 ∧ ws.getD (av + k) 0 ≤ 1125899906842624)
    (h : Own w0 F0 (memA T m ws lg :: L) w) :
    Calls Tryz.prog 40 #[.pointer (some ⟨m, 0, none⟩), cfV c (.slice pp np cp) (.slice pl nl cl), .int .i64 v] w fun e w' => e = .returned (.int .i64 (leftP av (lwN av) S ws)) ∧ Below w.heap.size w w' := by
  have hS8 := hs.2
  have hS1 := hs.1
  have HA := fun w => Lib.hid (Avail_q (pp := pp) (np := np) (cp := cp) (pl := pl) (nl := nl) (cl := cl) c hs v v0 v1 w)
  have HL := fun s s0 s1 w => Lib.hid (Lease_q (pp := pp) (np := np) (cp := cp) (pl := pl) (nl := nl) (cl := cl) c hs v v0 v1 s s0 s1 w)
  have h1 := (Own.start w).new (cfO c (.slice pp np cp) (.slice pl nl cl))
  have HW := Lib.hid (Words_b hm (h.alloc (cfO c (.slice pp np cp) (.slice pl nl cl))))
  have HT := fun w v i j hj hi hv => Lib.hid (at_q (w := w) (v := v) (ws := ws) i j hj hi hm hv)
  have H1 := Lib.hid h1
  have HP := Lib.hid p0
  have HS := Lib.hid hS
  have Hb := Lib.hid hb
  obtain ⟨d0, d1, d2, d3, d4, d5, d6, d7⟩ := conf_cells h1
  have hSN : S ≤ 8 := by omega
  clear h h1 hs p0 hb hS
  go_enter Tryz.func40, Tryz.ntmps40
  go_wp2_with fail
  generalize w.heap.size = C at *
  refine HW.out.mono ?_
  rintro e w2 ⟨vr, rfl, hO⟩
  have hI := hO.intsAt
  have h2 := H1.out.below hO.toBelow
  have H2 := Lib.hid h2
  have HI := Lib.hid hI
  clear d0 d1 d2 d3 d4 d5 d6 d7 hO hI HW H1
  obtain ⟨d0, d1, d2, d3, d4, d5, d6, d7⟩ := conf_cells h2
  clear h2
  go_wp2_with fail
  refine (HA _).out.mono ?_
  rintro e w3 ⟨rfl, hB⟩
  have H3 := Lib.hid (H2.out.below hB)
  have HI3 := Lib.hid (HI.out.below hB)
  clear H2 HI hB d0 d1 d2 d3 d4 d5 d6 d7
  rw [HP.out]
  have HT1 := HT w3 vr av av rfl (by omega) HI3.out
  clear HA
  go_wp2_with fail
  refine HT1.out.mono ?_
  rintro e w4 ⟨rfl, rfl⟩
  clear HT1
  obtain ⟨d0, d1, d2, d3, d4, d5, d6, d7⟩ := conf_cells H3.out
  have hmin : (if (8 : Int) < c.st then (8 : Int) else c.st) = c.st := if_neg (by omega)
  have hmin2 : (if c.st < (8 : Int) then c.st else 8) = c.st := by split <;> omega
  have H0 := Lib.hid (show ws.getD av 0 = leftP av (lwN av) 0 ws by unfold leftP; rw [sK]; omega)
  rw [H0.out]
  go_wp2_with fail
  clear d0 d1 d2 d3 d4 d5 d6 d7 H0
  go_loopw [8, 9, 20] (fun v8 v9 v20 wr => ∃ k : Nat, (k : Int) ≤ c.st ∧ v8 = .int .i64 (leftP av (lwN av) k ws) ∧ v20 = .int .i64 k ∧ Own w (fun _ => False) [blk C (cfO c (.slice pp np cp) (.slice pl nl cl))] wr ∧ IntsAt wr .i64 vr ws) (fun v8 v9 v20 _ => S - (intOf v20).toNat)
  case atStart => exact ⟨0, by omega, rfl, rfl, H3.out, HI3.out⟩
  case round =>
    obtain ⟨k, hk, rfl, rfl, hO, hI⟩ := hrel
    clear H3 HI3
    obtain ⟨d0, d1, d2, d3, d4, d5, d6, d7⟩ := conf_cells hO
    have HO := Lib.hid hO
    have HI := Lib.hid hI
    clear hO hI
    by_cases hlt : (k : Int) < c.st
    · have hkS : k < S := by have := HS.out; omega
      have HLk := fun w => HL k (by omega) (by omega) w
      have hbk := leftP_bd Hb.out k (by omega)
      have hb1 := Hb.out (k + 1) (by omega)
      rw [show av + (k + 1) = av + 1 + k by omega] at hb1
      have Hs := Lib.hid (leftP_succ av k ws)
      go_wp2_with fail
      refine (HLk _).out.mono ?_
      rintro e w5 ⟨rfl, hB⟩
      have H3 := Lib.hid (HO.out.below hB)
      have HI3 := Lib.hid (HI.out.below hB)
      clear HO HI hB d0 d1 d2 d3 d4 d5 d6 d7 HLk
      have hx : lim c v + 2 + (k : Int) = ((av + 1 + k : Nat) : Int) := by have := HP.out; omega
      rw [hx]
      have HT1 := HT w5 vr (av + 1 + k) ((av + 1 + k : Nat) : Int) rfl (by omega) HI3.out
      clear hx
      go_wp2_with fail
      refine HT1.out.mono ?_
      rintro e w6 ⟨rfl, rfl⟩
      clear HT1
      generalize leftP av (lwN av) k ws = s0 at *
      generalize ws.getD (av + 1 + k) 0 = y at *
      go_wp2_with fail
      go_roundw
      case rel => exact ⟨k + 1, by omega, by rw [Hs.out], by go_num, H3.out, HI3.out⟩
      case measure => simp [intOf]; omega
    · have hkS : k = S := by have := HS.out; omega
      subst hkS
      have hB := Lib.hid HO.out.toBelow
      go_wp2_with fail
      go_ret
      exact ⟨rfl, hB.out⟩
end Go.Proofs.YtjohngpbggendaaGreat
end
section
/- The machines of chapter 9 as one plain function; what one step keeps; among pokes; by turns. No program in it. -/
namespace Go.Proofs.YtjohngpbggendaaGreat
open Go.RowKit
set_option linter.unusedVariables false
/-- A kind (1 refund, 2 raise, 3 lower), the word that moves first, the one that moves last, the amount, by how much both move. -/
structure QP where
  kd : Nat
  fi : Nat
  la : Nat
  n : Int
  by_ : Int
structure QS where
  at_ : Nat
  saw : Int
  r : Bool
def noQ (p : QP) (y : Int) : Bool := (p.kd == 2 && decide (1099511627776 < y + p.n)) || (p.kd == 3 && decide (y < p.n))
def stepQ (p : QP) (s : QS) (ws : List Int) (lg : List Acc) : QS × List Int × List Acc × Bool :=
  match s.at_ with
  | 0 => (⟨if noQ p (ws.getD p.fi 0) = true then 9 else 1, ws.getD p.fi 0, noQ p (ws.getD p.fi 0)⟩, ws, lg ++ [⟨1, (p.fi : Nat), ws.getD p.fi 0, 0, false⟩], noQ p (ws.getD p.fi 0))
  | 1 => if ws.getD p.fi 0 = s.saw then (⟨2, s.saw, s.r⟩, ws.set p.fi (s.saw + p.by_), lg ++ [⟨3, (p.fi : Nat), s.saw, s.saw + p.by_, true⟩], false)
      else (⟨0, s.saw, s.r⟩, ws, lg ++ [⟨3, (p.fi : Nat), s.saw, s.saw + p.by_, false⟩], false)
  | 2 => (⟨9, s.saw, s.r⟩, ws.set p.la (wrap64 (ws.getD p.la 0 + p.by_)), lg ++ [⟨2, (p.la : Nat), p.by_, wrap64 (ws.getD p.la 0 + p.by_), false⟩], true)
  | _ => (s, ws, lg, true)
/-- Where a machine of a kind begins. -/
def s0Q (kd : Nat) : QS := ⟨if kd = 1 then 2 else 0, 0, false⟩
structure QP.Ok (p : QP) : Prop where
  ne : p.fi ≠ p.la
  kd : p.kd = 1 ∨ p.kd = 2 ∨ p.kd = 3
  n0 : 1 ≤ p.n
  n1 : p.n ≤ 1048576
  by_ : p.by_ = if p.kd = 3 then -p.n else p.n
/-- Words: both are there, and within bounds. -/
structure QW (p : QP) (B : Int) (ws : List Int) : Prop where
  fi : p.fi < ws.length
  la : p.la < ws.length
  most : ws.length ≤ 10000
  wf : ∀ k, I64 (ws.getD k 0)
  f0 : -B ≤ ws.getD p.fi 0
  f1 : ws.getD p.fi 0 ≤ B
  l0 : -B ≤ ws.getD p.la 0
  l1 : ws.getD p.la 0 ≤ B
structure QSOk (p : QP) (B : Int) (s : QS) : Prop where
  at_ : s.at_ ≤ 2 ∨ s.at_ = 9
  one : s.at_ = 1 → -B ≤ s.saw ∧ s.saw ≤ B ∧ noQ p s.saw = false
  r : s.r = true → s.at_ = 9 ∧ 2 ≤ p.kd
  refund : p.kd = 1 → 2 ≤ s.at_
  sI : I64 s.saw
variable {p : QP} {s : QS} {ws : List Int} {lg : List Acc} {B : Int}
theorem s0Q_ok (p : QP) (B : Int) : QSOk p B (s0Q p.kd) := by
  refine ⟨?_, fun h => ?_, fun h => by simp [s0Q] at h, fun h => ?_, by simp [s0Q, I64]⟩
  · unfold s0Q; simp only; split <;> simp
  · unfold s0Q at h; simp only at h; split at h <;> simp at h
  · unfold s0Q; simp only; rw [if_pos h]; exact Nat.le_refl _
theorem by_bd (hp : p.Ok) : -1048576 ≤ p.by_ ∧ p.by_ ≤ 1048576 := by
  have := hp.n0; have := hp.n1; rw [hp.by_]; split <;> omega
theorem QSOk.step (hp : p.Ok) (hw : QW p B ws) (hs : QSOk p B s) : QSOk p B (stepQ p s ws lg).1 := by
  obtain ⟨at_, saw, r⟩ := s
  obtain ⟨h9, h1, hr, hk, sI⟩ := hs
  simp only at h9 h1 hr hk sI
  have hkd := hp.kd
  match at_, h9 with
  | 0, _ =>
    have k1 : p.kd ≠ 1 := fun e => by have := hk e; omega
    simp only [stepQ]
    by_cases hn : noQ p (ws.getD p.fi 0) = true
    · rw [if_pos hn]
      exact ⟨Or.inr rfl, fun h => by simp at h, fun _ => ⟨rfl, by omega⟩, fun e => absurd e k1, hw.wf _⟩
    · rw [if_neg hn]
      exact ⟨Or.inl (by simp), fun _ => ⟨hw.f0, hw.f1, by simpa using hn⟩, fun h => absurd h hn, fun e => absurd e k1, hw.wf _⟩
  | 1, _ =>
    have k1 : p.kd ≠ 1 := fun e => by have := hk e; omega
    have rf : r = false := by cases r with | true => exact absurd (hr rfl).1 (by decide) | false => rfl
    subst rf
    simp only [stepQ]; split
    · exact ⟨Or.inl (by simp), fun h => by simp at h, fun h => by simp at h, fun e => absurd e k1, sI⟩
    · exact ⟨Or.inl (by simp), fun h => by simp at h, fun h => by simp at h, fun e => absurd e k1, sI⟩
  | 2, _ =>
    have rf : r = false := by cases r with | true => exact absurd (hr rfl).1 (by decide) | false => rfl
    subst rf
    exact ⟨Or.inr rfl, fun h => by simp [stepQ] at h, fun h => by simp [stepQ] at h, fun _ => by simp [stepQ], sI⟩
  | 9, _ => exact ⟨Or.inr rfl, fun h => by simp [stepQ] at h, hr, fun e => by simp [stepQ], sI⟩
  | 3, h9 => omega
  | 4, h9 => omega
  | 5, h9 => omega
  | 6, h9 => omega
  | 7, h9 => omega
  | 8, h9 => omega
  | k + 10, h9 => omega
/-- What a machine added to the first word, and to the last one. -/
def gF (p : QP) (s : QS) : Int := if 2 ≤ p.kd ∧ (s.at_ = 2 ∨ (s.at_ = 9 ∧ s.r = false)) then p.by_ else 0
def gL (p : QP) (s : QS) : Int := if s.at_ = 9 ∧ s.r = false then p.by_ else 0
/-- What a log's accesses added to a word. -/
def addW (w : Nat) : List Acc → Int
  | [] => 0
  | x :: l => (if x.w = (w : Int) then ownA x else 0) + addW w l
theorem addW_app (w : Nat) (l : List Acc) (x : Acc) : addW w (l ++ [x]) = addW w l + if x.w = (w : Int) then ownA x else 0 := by
  induction l with
  | nil => simp [addW]
  | cons y l ih => rw [List.cons_append, addW, addW, ih]; omega
theorem stepQ_moves (hp : p.Ok) (hB : B ≤ 1000000000000000000) (hw : QW p B ws) (hs : QSOk p B s) (h : s.at_ ≠ 9) :
    (stepQ p s ws lg).2.1.getD p.fi 0 = ws.getD p.fi 0 + gF p (stepQ p s ws lg).1 - gF p s ∧
    (stepQ p s ws lg).2.1.getD p.la 0 = ws.getD p.la 0 + gL p (stepQ p s ws lg).1 - gL p s ∧
    (∀ k, k ≠ p.fi → k ≠ p.la → (stepQ p s ws lg).2.1.getD k 0 = ws.getD k 0) ∧
    addW p.fi (stepQ p s ws lg).2.2.1 = addW p.fi lg + gF p (stepQ p s ws lg).1 - gF p s ∧
    addW p.la (stepQ p s ws lg).2.2.1 = addW p.la lg + gL p (stepQ p s ws lg).1 - gL p s ∧
    (stepQ p s ws lg).2.2.1.length = lg.length + 1 ∧ (stepQ p s ws lg).2.1.length = ws.length := by
  obtain ⟨at_, saw, r⟩ := s
  obtain ⟨h9, h1, hr, hk, sI⟩ := hs
  simp only at h9 h1 hr hk sI h
  have hb := by_bd hp
  have hne := hp.ne
  have hfi := hw.fi
  have hla := hw.la
  have f0 := hw.f0
  have f1 := hw.f1
  have l0 := hw.l0
  have l1 := hw.l1
  have hkd := hp.kd
  have rf : r = false := by cases r with | true => exact absurd (hr rfl).1 h | false => rfl
  subst rf
  have hfl : ¬ ((p.fi : Nat) : Int) = (p.la : Nat) := by omega
  have hlf : ¬ ((p.la : Nat) : Int) = (p.fi : Nat) := by omega
  match at_, h9, h with
  | 0, _, _ =>
    simp only [stepQ]
    by_cases hn : noQ p (ws.getD p.fi 0) = true
    · rw [if_pos hn, hn]
      exact ⟨by simp [gF], by simp [gL], fun _ _ _ => trivial, by rw [addW_app]; simp [gF, ownA], by rw [addW_app]; simp [gL, ownA], by simp, trivial⟩
    · rw [if_neg hn]
      exact ⟨by simp [gF], by simp [gL], fun _ _ _ => trivial, by rw [addW_app]; simp [gF, ownA], by rw [addW_app]; simp [gL, ownA], by simp, trivial⟩
  | 1, _, _ =>
    have k1 : 2 ≤ p.kd := by
      rcases hkd with e | e | e
      · have := hk e; omega
      · omega
      · omega
    simp only [stepQ]; split
    · rename_i hc
      refine ⟨?_, ?_, fun k h1 h2 => ?_, ?_, ?_, by simp, by simp⟩
      · rw [getD_set, if_pos ⟨rfl, hfi⟩, hc]; simp [gF, k1]
      · rw [getD_set, if_neg (by omega)]; simp [gL]
      · rw [getD_set, if_neg (by omega)]
      · rw [addW_app]; simp [gF, ownA, k1]; omega
      · rw [addW_app]; simp only; rw [if_neg hfl]; simp [gL]
    · exact ⟨by simp [gF], by simp [gL], fun _ _ _ => rfl, by rw [addW_app]; simp [gF, ownA], by rw [addW_app]; simp [gL, ownA], by simp, rfl⟩
  | 2, _, _ =>
    have hwr : wrap64 (ws.getD p.la 0 + p.by_) = ws.getD p.la 0 + p.by_ := by unfold wrap64; omega
    simp only [stepQ, hwr]
    refine ⟨?_, ?_, fun k h1 h2 => ?_, ?_, ?_, by simp, by simp⟩
    · rw [getD_set, if_neg (by omega)]; simp [gF]
    · rw [getD_set, if_pos ⟨rfl, hla⟩]; simp [gL]
    · rw [getD_set, if_neg (by omega)]
    · rw [addW_app]; simp only; rw [if_neg hlf]; simp [gF]
    · rw [addW_app]; simp [gL, ownA]
  | 9, _, h => exact absurd rfl h
  | 3, h9, _ => omega
  | 4, h9, _ => omega
  | 5, h9, _ => omega
  | 6, h9, _ => omega
  | 7, h9, _ => omega
  | 8, h9, _ => omega
  | k + 10, h9, _ => omega
def muQ (p : QP) (s : QS) (ws : List Int) : Nat :=
  match s.at_ with
  | 0 => 3
  | 1 => if ws.getD p.fi 0 = s.saw then 2 else 4
  | 2 => 1
  | _ => 0
theorem muQ_poke (ws' : List Int) : muQ p s ws' ≤ muQ p s ws + 2 := by
  unfold muQ; split <;> (try split) <;> (try split) <;> omega
theorem muQ_step (hs : QSOk p B s) (h : s.at_ ≠ 9) : muQ p (stepQ p s ws lg).1 (stepQ p s ws lg).2.1 < muQ p s ws := by
  obtain ⟨at_, saw, r⟩ := s
  have h9 := hs.at_
  simp only at h9 h
  match at_, h9, h with
  | 0, _, _ =>
    simp only [stepQ]
    by_cases hn : noQ p (ws.getD p.fi 0) = true
    · rw [if_pos hn]; simp [muQ]
    · rw [if_neg hn]; simp [muQ]
  | 1, _, _ =>
    simp only [stepQ]; split
    · rename_i hc; simp only [muQ]; rw [if_pos hc]; simp
    · rename_i hc; simp only [muQ]; rw [if_neg hc]; simp
  | 2, _, _ => simp [stepQ, muQ]
  | 9, _, h => exact absurd rfl h
  | 3, h9, _ => omega
  | 4, h9, _ => omega
  | 5, h9, _ => omega
  | 6, h9, _ => omega
  | 7, h9, _ => omega
  | 8, h9, _ => omega
  | k + 10, h9, _ => omega
def phiQ (s : QS) : Int := if s.at_ ≤ 1 then 0 else if s.at_ = 2 then 1 else 2
theorem phiQ_bd (s : QS) : 0 ≤ phiQ s ∧ phiQ s ≤ 2 := by unfold phiQ; split <;> (try split) <;> omega
theorem phiQ_step (hs : QSOk p B s) (h : s.at_ ≠ 9) : phiQ s ≤ phiQ (stepQ p s ws lg).1 ∧ ((stepQ p s ws lg).2.1 = ws ∨ phiQ s + 1 ≤ phiQ (stepQ p s ws lg).1) := by
  obtain ⟨at_, saw, r⟩ := s
  have h9 := hs.at_
  simp only at h9 h
  match at_, h9, h with
  | 0, _, _ =>
    refine ⟨?_, Or.inl rfl⟩
    have e : phiQ ⟨0, saw, r⟩ = 0 := by simp [phiQ]
    rw [e]; exact (phiQ_bd _).1
  | 1, _, _ =>
    simp only [stepQ]; split
    · exact ⟨by simp [phiQ], Or.inr (by simp [phiQ])⟩
    · exact ⟨by simp [phiQ], Or.inl rfl⟩
  | 2, _, _ => exact ⟨by simp [stepQ, phiQ], Or.inr (by simp [stepQ, phiQ])⟩
  | 9, _, h => exact absurd rfl h
  | 3, h9, _ => omega
  | 4, h9, _ => omega
  | 5, h9, _ => omega
  | 6, h9, _ => omega
  | 7, h9, _ => omega
  | 8, h9, _ => omega
  | k + 10, h9, _ => omega
end Go.Proofs.YtjohngpbggendaaGreat
end
