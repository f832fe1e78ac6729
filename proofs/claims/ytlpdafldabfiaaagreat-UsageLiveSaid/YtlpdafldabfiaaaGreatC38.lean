/- Texts of elder layers, one behind the other: AdmitRef. -/
import Derived.Test.YtlpdafldabfiaaaGreatC35
import Derived.Test.YtlpdafldabfiaaaGreatC37
import Derived.Deep.RegionHeld3
import Derived.Deep.QuietTactic
import Derived.BigQuiet
import Derived.Lib.QuietBelow
import Derived.Deep.RegionWith
section
namespace Go.Proofs.YtlpdafldabfiaaaGreat
open Go.ChangeShapes Go.WideShapes Go.ChangeAt Go.RowKit Go.Shelf
set_option linter.unusedVariables false
set_option linter.unusedSimpArgs false
set_option maxRecDepth 100000
variable {w0 w w' W : World} {F0 : Nat → Prop} {L : List Asn} {T : TypeId} {m : Nat} {ws : List Int} {lg : List Acc}
def rdO (c : Cf) (vp vl : Value) (nd n t : Int) (vq : Value) (ph at_ : Int) (vP vA : Option Addr) (lv er an nn : Int) (kc : Nat) : Obj := .cells #[.int .i64 c.th, .int .i64 c.st, .int .i64 c.ga, .int .i64 c.le, .int .i64 c.re, .int .i64 c.ti, vp, vl, .int .i64 nd, .int .i64 n, .int .i64 t, vq, .int .i64 ph, .int .i64 at_, .pointer (some ⟨kc, 0, none⟩), .pointer vP, .pointer vA, .int .i64 lv, .int .i64 er, .int .i64 an, .bool false, .int .i64 nn] 124 (0, 0)
theorem rdCells {k kc : Nat} {c : Cf} {vp vl vq : Value} {nd n t ph at_ lv er an nn : Int} {vP vA : Option Addr} (h : Own w0 F0 (blk k (rdO c vp vl nd n t vq ph at_ vP vA lv er an nn kc) :: L) w) :
    w.cell? ⟨k, 0, none⟩ = some (.int .i64 c.th) ∧ w.cell? ⟨k, 1, none⟩ = some (.int .i64 c.st) ∧ w.cell? ⟨k, 2, none⟩ = some (.int .i64 c.ga) ∧ w.cell? ⟨k, 3, none⟩ = some (.int .i64 c.le) ∧ w.cell? ⟨k, 4, none⟩ = some (.int .i64 c.re) ∧ w.cell? ⟨k, 5, none⟩ = some (.int .i64 c.ti) ∧ w.cell? ⟨k, 6, none⟩ = some (vp) ∧ w.cell? ⟨k, 7, none⟩ = some (vl) ∧ w.cell? ⟨k, 8, none⟩ = some (.int .i64 nd) ∧ w.cell? ⟨k, 9, none⟩ = some (.int .i64 n) ∧ w.cell? ⟨k, 10, none⟩ = some (.int .i64 t) ∧ w.cell? ⟨k, 11, none⟩ = some (vq) ∧ w.cell? ⟨k, 12, none⟩ = some (.int .i64 ph) ∧ w.cell? ⟨k, 13, none⟩ = some (.int .i64 at_) ∧ w.cell? ⟨k, 14, none⟩ = some (.pointer (some ⟨kc, 0, none⟩)) ∧ w.cell? ⟨k, 15, none⟩ = some (.pointer vP) ∧ w.cell? ⟨k, 16, none⟩ = some (.pointer vA) ∧ w.cell? ⟨k, 17, none⟩ = some (.int .i64 lv) ∧ w.cell? ⟨k, 18, none⟩ = some (.int .i64 er) ∧ w.cell? ⟨k, 19, none⟩ = some (.int .i64 an) ∧ w.cell? ⟨k, 20, none⟩ = some (.bool false) ∧ w.cell? ⟨k, 21, none⟩ = some (.int .i64 nn) ∧ ∀ j, w.frozen? ⟨k, j, none⟩ = false :=
  ⟨h.cell (i := 0) rfl, h.cell (i := 1) rfl, h.cell (i := 2) rfl, h.cell (i := 3) rfl, h.cell (i := 4) rfl, h.cell (i := 5) rfl, h.cell (i := 6) rfl, h.cell (i := 7) rfl, h.cell (i := 8) rfl, h.cell (i := 9) rfl, h.cell (i := 10) rfl, h.cell (i := 11) rfl, h.cell (i := 12) rfl, h.cell (i := 13) rfl, h.cell (i := 14) rfl, h.cell (i := 15) rfl, h.cell (i := 16) rfl, h.cell (i := 17) rfl, h.cell (i := 18) rfl, h.cell (i := 19) rfl, h.cell (i := 20) rfl, h.cell (i := 21) rfl, fun j => h.unfrozen⟩
theorem fld12E (e n : Int) (x : Bool) (q : Int) (w : World) : (Instr.field 47 (.agg #[.int .i64 e, .int .i64 n, .bool x, .int .i64 q]) 0).run Tryz.prog w = .ok (.int .i64 e) w := by kernel_rfl
theorem fld12N (e n : Int) (x : Bool) (q : Int) (w : World) : (Instr.field 47 (.agg #[.int .i64 e, .int .i64 n, .bool x, .int .i64 q]) 1).run Tryz.prog w = .ok (.int .i64 n) w := by kernel_rfl
def rdR (vp vl vq : Value) (p : DP) : Asn := star (row vp 3 1 p.c.ps.length (intC p.c.ps)) (star (row vl 3 1 p.c.ls.length (intC p.c.ls)) (row vq 3 1 p.len (intC (path p.c.ps p.v))))
theorem rdR_at {vp vl vq : Value} {p : DP} (h : Own w0 F0 (rdR vp vl vq p :: L) w) : IntsAt w .i64 vp p.c.ps ∧ IntsAt w .i64 vl p.c.ls ∧ IntsAt w .i64 vq (path p.c.ps p.v) := by
  have h1 := h.part
  have h2 := h1.drop.part
  exact ⟨h1.intsAt, h2.intsAt, h2.drop.intsAt⟩
theorem rdR_q {vp vl vq : Value} {p : DP} (hp : p.Ok) (h : Own w0 F0 (rdR vp vl vq p :: L) w) : ∃ b off cap, vq = .slice (some ⟨b, off, none⟩) p.len cap ∧ ∀ i, i < p.len → w.cell? ⟨b, off + i, none⟩ = some (.int .i64 (p.nd i)) := by
  obtain ⟨b, off, cap, e, hc⟩ := (rdR_at h).2.2.at (by have := (DP.len_bd hp).1; unfold DP.len at this; omega)
  refine ⟨b, off, cap, e, fun i hi => ?_⟩
  have := hc i hi
  rw [show (path p.c.ps p.v).getD i 0 = (p.nd i : Int) by
    rw [← DP.nd_int hp i hi]
    have : i < (path p.c.ps p.v).length := hi
    simp [List.getD, this]] at this
  exact this
theorem rdR_sl {vp vl vq : Value} {p : DP} (h : Own w0 F0 (rdR vp vl vq p :: L) w) : ∃ a1 c1 a2 c2, vp = .slice a1 p.c.ps.length c1 ∧ vl = .slice a2 p.c.ls.length c2 := by
  obtain ⟨h1, h2, -⟩ := rdR_at h
  obtain ⟨a1, c1, e1⟩ := h1.slice
  obtain ⟨a2, c2, e2⟩ := h2.slice
  exact ⟨a1, c1, a2, c2, e1, e2⟩
def rcX (kc : Nat) (p : DP) (s : CS) : Asn := ex fun x : (Option Addr × Nat) × (Option Addr × Nat) => rcA kc p.c x.1.1 p.c.ps.length x.1.2 x.2.1 p.c.ls.length x.2.2 p.cp s
theorem rcOk_of {p : DP} (hp : p.Ok) : RcOk p.c p.c.ps.length p.cp := ⟨hp.rt.sm, hp.rt.n1, limN_eq hp.rt.sm p.c.ps.length, (ti_nat hp.rt).1⟩
theorem rcX_ans {kc : Nat} {p : DP} {s : CS} (h : Own w0 F0 (rcX kc p s :: L) w) :
    Calls Tryz.prog 74 #[.pointer (some ⟨kc, 0, none⟩)] w fun e w' => e = .returned (.agg #[.int .i64 (erC s), .int .i64 s.n, .bool false, .int .i64 0]) ∧ Below w.heap.size w w' := by
  obtain ⟨x, h⟩ := h.exE
  exact rcAns_any h
theorem rcX_word {kc : Nat} {p : DP} {s : CS} (h : Own w0 F0 (rcX kc p s :: L) w) :
    Calls Tryz.prog 82 #[.pointer (some ⟨kc, 0, none⟩)] w fun e w' => e = .returned (.int .i64 s.put) ∧ Below w.heap.size w w' := by
  obtain ⟨x, h⟩ := h.exE
  exact rcWord_any h
theorem rcX_step {kc : Nat} {p : DP} {s : CS} (hp : p.Ok) (hw : CW p.cp ws) (hs : CSOk p.cp s) (hl : lg.length < 1000000) (h : Own w0 F0 (rcX kc p s :: memA T m ws lg :: L) w) :
    Calls Tryz.prog 75 #[.pointer (some ⟨kc, 0, none⟩), .pointer (some ⟨m, 0, none⟩)] w fun e w' => e = .returned (.bool (stepC p.cp s ws lg).1.fin) ∧ Own w0 F0 (rcX kc p (stepC p.cp s ws lg).1 :: memA T m (stepC p.cp s ws lg).2.1 (stepC p.cp s ws lg).2.2.1 :: L) w' := by
  obtain ⟨x, h⟩ := h.exE
  have hc := rcl_steps (w0 := w0) (F0 := F0) (pp := x.1.1) (np := p.c.ps.length) (cp := x.1.2) (pl := x.2.1) (nl := p.c.ls.length) (cl := x.2.2) kc m p.c T p.cp (rcOk_of hp) L s ws lg w ⟨DP.cp_ok hp, hw, hs, hl⟩ h
  refine hc.mono ?_
  rintro e w' ⟨rfl, hO⟩
  refine ⟨?_, Own.exI (A := fun x : (Option Addr × Nat) × (Option Addr × Nat) => rcA kc p.c x.1.1 p.c.ps.length x.1.2 x.2.1 p.c.ls.length x.2.2 p.cp (stepC p.cp s ws lg).1) x hO⟩
  have e := stepC_flag (ws := ws) (lg := lg) hs
  rw [← e]; rfl
def rpX (kp : Nat) (p : DP) (i : Nat) (s : PS) : Asn := ex fun x : (Option Addr × Nat) × (Option Addr × Nat) => rpA kp p.c x.1.1 p.c.ps.length x.1.2 x.2.1 p.c.ls.length x.2.2 (p.nd i) ((p.t % p.S : Nat) : Int) (p.pp i) s
theorem rmOk_of {p : DP} (hp : p.Ok) (i : Nat) (hi : i < p.len) : RmOk p.c (p.nd i) ((p.t % p.S : Nat) : Int) (p.pp i).av (p.pp i).le (p.pp i).n := by
  have h1 := DP.nd_lt hp i hi
  have h2 := hp.rt.n1
  have h3 := DP.st_lt hp
  have h4 := (st_nat hp.rt).2.2
  have e := limN_eq hp.rt.sm (p.nd i)
  refine ⟨hp.rt.sm, by omega, by omega, by omega, by omega, ?_, ?_⟩
  · rw [e]; show _ = ((avN p.c (p.nd i) : Nat) : Int); unfold avN; omega
  · rw [e]; show _ = ((leN p.c (p.nd i) (p.t % p.S) : Nat) : Int); unfold leN; omega
theorem rpX_ans {kp i : Nat} {p : DP} {s : PS} (h : Own w0 F0 (rpX kp p i s :: L) w) :
    Calls Tryz.prog 116 #[.pointer (some ⟨kp, 0, none⟩)] w fun e w' => e = .returned (.agg #[.int .i64 (erP s), .int .i64 0, .bool false, .int .i64 (anP (p.nd i) s)]) ∧ Below w.heap.size w w' := by
  obtain ⟨x, h⟩ := h.exE
  exact rPoolAns_any h
theorem rpX_step {kp i : Nat} {p : DP} {s : PS} {B : Int} (hp : p.Ok) (hi : i < p.len) (hB : B ≤ 1000000000000000000) (hw : PW (p.pp i) B ws) (hs : PSOk (p.pp i) B s) (hl : lg.length < 1000000) (h : Own w0 F0 (rpX kp p i s :: memA T m ws lg :: L) w) :
    Calls Tryz.prog 77 #[.pointer (some ⟨kp, 0, none⟩), .pointer (some ⟨m, 0, none⟩)] w fun e w' => e = .returned (.bool (stepP (p.pp i) s ws lg).2.2.2) ∧ Own w0 F0 (rpX kp p i (stepP (p.pp i) s ws lg).1 :: memA T m (stepP (p.pp i) s ws lg).2.1 (stepP (p.pp i) s ws lg).2.2.1 :: L) w' := by
  obtain ⟨x, h⟩ := h.exE
  have hc := rPool_steps (w0 := w0) (F0 := F0) (pp := x.1.1) (np := p.c.ps.length) (cp := x.1.2) (pl := x.2.1) (nl := p.c.ls.length) (cl := x.2.2) kp m p.c (p.nd i) ((p.t % p.S : Nat) : Int) T (p.pp i) B hB (rmOk_of hp i hi) rfl L s ws lg w ⟨DP.pp_ok hp i, hw, hs, hl⟩ h
  refine hc.mono ?_
  rintro e w' ⟨rfl, hO⟩
  exact ⟨rfl, Own.exI (A := fun x : (Option Addr × Nat) × (Option Addr × Nat) => rpA kp p.c x.1.1 p.c.ps.length x.1.2 x.2.1 p.c.ls.length x.2.2 (p.nd i) ((p.t % p.S : Nat) : Int) (p.pp i) (stepP (p.pp i) s ws lg).1) x hO⟩
theorem rpX_new {vp vl vq : Value} {p : DP} (hp : p.Ok) (i : Nat) (h : Own w0 F0 (rdR vp vl vq p :: L) w) :
    Calls Tryz.prog 137 #[cfV p.c vp vl, .int .i64 (p.nd i), .int .i64 p.n, .int .i64 ((p.t % p.S : Nat) : Int)] w fun e w' => ∃ kp, e = .returned (.pointer (some ⟨kp, 0, none⟩)) ∧ Own w0 F0 (rpX kp p i s0P :: rdR vp vl vq p :: L) w' := by
  refine (rNewP_any p.c hp.rt (fun w' h => (rdR_at h).1) (fun w' h => (rdR_at h).2.1) (p.nd i) p.n ((p.t % p.S : Nat) : Int) (p.pp i) rfl h).mono ?_
  rintro e w' ⟨k, a1, c1, a2, c2, rfl, hO⟩
  exact ⟨k, rfl, Own.exI (A := fun x : (Option Addr × Nat) × (Option Addr × Nat) => rpA k p.c x.1.1 p.c.ps.length x.1.2 x.2.1 p.c.ls.length x.2.2 (p.nd i) ((p.t % p.S : Nat) : Int) (p.pp i) s0P) ((a1, c1), (a2, c2)) hO⟩
section
variable {k kc i : Nat} {vp vl vq : Value} {p : DP} {vP vA : Option Addr} {lv er an nn : Int}
theorem rdR_pc {b off cap n' : Nat} (hp : p.Ok) (h : Own w0 F0 (rdR vp vl (.slice (some ⟨b, off, none⟩) n' cap) p :: L) w) (i : Nat) (hi : i < p.len) : w.cell? ⟨b, off + i, none⟩ = some (.int .i64 (p.nd i)) := by
  obtain ⟨b', o', c', e, hc⟩ := rdR_q hp h
  injection e with e1 e2 e3
  injection e1 with e1
  injection e1 with e1 e4 _
  subst e1 e4
  exact hc i hi
theorem rd_tm (hp : p.Ok) : ((p.t : Int)).tmod p.c.st = ((p.t % p.S : Nat) : Int) := by
  have h := (st_nat hp.rt).1
  rw [Int.tmod_eq_emod_of_nonneg (by omega), h]
  show _ = ((p.t % p.c.st.toNat : Nat) : Int)
  omega
set_option maxHeartbeats 4000000 in
theorem rdPool (hp : p.Ok) (hi : i < p.len) (h : Own w0 F0 (blk k (rdO p.c vp vl p.v p.n p.t vq 1 i vP vA lv er an nn kc) :: rdR vp vl vq p :: L) w) :
    Calls Tryz.prog 115 #[.pointer (some ⟨k, 0, none⟩)] w fun e w' => e = .returned (.tuple #[]) ∧ ∃ kp, Own w0 F0 (blk k (rdO p.c vp vl p.v p.n p.t vq 1 i (some ⟨kp, 0, none⟩) vA lv er an nn kc) :: rpX kp p i s0P :: rdR vp vl vq p :: L) w' := by
  obtain ⟨b, off, cap, rfl, -⟩ := rdR_q hp h.swap
  have hO := h.drew.swap
  have htm := rd_tm hp
  have hz1 : (p.c.st == 0) = false := by rw [beq_eq_false_iff_ne]; have := (st_nat hp.rt); omega
  have hz2 : ¬ p.c.st = 0 := by have := (st_nat hp.rt); omega
  have i1 : (i : Int) < (p.len : Int) := by omega
  have x0 := rdR_pc hp hO i hi
  obtain ⟨c0, c1, c2, c3, c4, c5, c6, c7, c8, c9, c10, c11, c12, c13, c14, c15, c16, c17, c18, c19, c20, c21, cf⟩ := rdCells hO.swap
  clear h
  go_enter Tryz.func115, Tryz.ntmps115
  go_wp2_with fail
  refine wp_region_held_drew (S := (fun w' => w'.cell? ⟨k, 0, none⟩ = some (.int .i64 p.c.th) ∧ w'.cell? ⟨k, 1, none⟩ = some (.int .i64 p.c.st) ∧ w'.cell? ⟨k, 2, none⟩ = some (.int .i64 p.c.ga) ∧ w'.cell? ⟨k, 3, none⟩ = some (.int .i64 p.c.le) ∧ w'.cell? ⟨k, 4, none⟩ = some (.int .i64 p.c.re) ∧ w'.cell? ⟨k, 5, none⟩ = some (.int .i64 p.c.ti) ∧ w'.cell? ⟨k, 6, none⟩ = some (vp) ∧ w'.cell? ⟨k, 7, none⟩ = some (vl) ∧ w'.cell? ⟨k, 9, none⟩ = some (.int .i64 p.n) ∧ w'.cell? ⟨k, 10, none⟩ = some (.int .i64 p.t) ∧ w'.cell? ⟨k, 11, none⟩ = some (.slice (some ⟨b, off, none⟩) p.len cap) ∧ w'.cell? ⟨k, 13, none⟩ = some (.int .i64 i) ∧ w'.cell? ⟨b, off + i, none⟩ = some (.int .i64 (p.nd i)))) (by kernel_rfl) ?_ (fun hHeld => ?_)
  · exact ⟨c0, c1, c2, c3, c4, c5, c6, c7, c9, c10, c11, c13, x0⟩
  refine wpAnyH_take (i := 0) (v := ?v0) rfl (by kernel_rfl) (by kernel_rfl) (by kernel_rfl) (fun _ _ _ h => h) (Or.inl ⟨by kernel_rfl, ?y0⟩) (by assumption) ?r0
  case y0 => (intro w hSw; (try dsimp only at hSw); first | (go_simp; done) | (go_simp; with_reducible rfl))
  try simp only [Act.put, List.setIfInBounds_toArray, List.set_cons_zero, List.set_cons_succ]
  refine wpAnyH_take (i := 1) (v := ?v1) rfl (by kernel_rfl) (by kernel_rfl) (by kernel_rfl) (fun _ _ _ h => h) (Or.inl ⟨by kernel_rfl, ?y1⟩) (by assumption) ?r1
  case y1 => (intro w hSw; (try dsimp only at hSw); first | (go_simp; done) | (go_simp; with_reducible rfl))
  try simp only [Act.put, List.setIfInBounds_toArray, List.set_cons_zero, List.set_cons_succ]
  refine wpAnyH_take (i := 2) (v := ?v2) rfl (by kernel_rfl) (by kernel_rfl) (by kernel_rfl) (fun _ _ _ h => h) (Or.inl ⟨by kernel_rfl, ?y2⟩) (by assumption) ?r2
  case y2 => (intro w hSw; (try dsimp only at hSw); first | (go_simp; done) | (go_simp; with_reducible rfl))
  try simp only [Act.put, List.setIfInBounds_toArray, List.set_cons_zero, List.set_cons_succ]
  refine wpAnyH_take (i := 3) (v := ?v3) rfl (by kernel_rfl) (by kernel_rfl) (by kernel_rfl) (fun _ _ _ h => h) (Or.inl ⟨by kernel_rfl, ?y3⟩) (by assumption) ?r3
  case y3 => (intro w hSw; (try dsimp only at hSw); first | (go_simp; done) | (go_simp; with_reducible rfl))
  try simp only [Act.put, List.setIfInBounds_toArray, List.set_cons_zero, List.set_cons_succ]
  refine wpAnyH_take (i := 4) (v := ?v4) rfl (by kernel_rfl) (by kernel_rfl) (by kernel_rfl) (fun _ _ _ h => h) (Or.inl ⟨by kernel_rfl, ?y4⟩) (by assumption) ?r4
  case y4 => (intro w hSw; (try dsimp only at hSw); first | (go_simp; done) | (go_simp; with_reducible rfl))
  try simp only [Act.put, List.setIfInBounds_toArray, List.set_cons_zero, List.set_cons_succ]
  refine wpAnyH_take (i := 5) (v := ?v5) rfl (by kernel_rfl) (by kernel_rfl) (by kernel_rfl) (fun _ _ _ h => h) (Or.inl ⟨by kernel_rfl, ?y5⟩) (by assumption) ?r5
  case y5 => (intro w hSw; (try dsimp only at hSw); first | (go_simp; done) | (go_simp; with_reducible rfl))
  try simp only [Act.put, List.setIfInBounds_toArray, List.set_cons_zero, List.set_cons_succ]
  refine wpAnyH_take (i := 6) (v := ?v6) rfl (by kernel_rfl) (by kernel_rfl) (by kernel_rfl) (fun _ _ _ h => h) (Or.inl ⟨by kernel_rfl, ?y6⟩) (by assumption) ?r6
  case y6 => (intro w hSw; (try dsimp only at hSw); first | (go_simp; done) | (go_simp; with_reducible rfl))
  try simp only [Act.put, List.setIfInBounds_toArray, List.set_cons_zero, List.set_cons_succ]
  refine wpAnyH_take (i := 7) (v := ?v7) rfl (by kernel_rfl) (by kernel_rfl) (by kernel_rfl) (fun _ _ _ h => h) (Or.inl ⟨by kernel_rfl, ?y7⟩) (by assumption) ?r7
  case y7 => (intro w hSw; (try dsimp only at hSw); first | (go_simp; done) | (go_simp; with_reducible rfl))
  try simp only [Act.put, List.setIfInBounds_toArray, List.set_cons_zero, List.set_cons_succ]
  refine wpAnyH_take (i := 8) (v := ?v8) rfl (by kernel_rfl) (by kernel_rfl) (by kernel_rfl) (fun _ _ _ h => h) (Or.inl ⟨by kernel_rfl, ?y8⟩) (by assumption) ?r8
  case y8 => (intro w hSw; (try dsimp only at hSw); first | (go_simp; done) | (go_simp; with_reducible rfl))
  try simp only [Act.put, List.setIfInBounds_toArray, List.set_cons_zero, List.set_cons_succ]
  refine wpAnyH_take (i := 9) (v := ?v9) rfl (by kernel_rfl) (by kernel_rfl) (by kernel_rfl) (fun _ _ _ h => h) (Or.inl ⟨by kernel_rfl, ?y9⟩) (by assumption) ?r9
  case y9 => (intro w hSw; (try dsimp only at hSw); first | (go_simp; done) | (go_simp; with_reducible rfl))
  try simp only [Act.put, List.setIfInBounds_toArray, List.set_cons_zero, List.set_cons_succ]
  refine wpAnyH_take (i := 10) (v := ?v10) rfl (by kernel_rfl) (by kernel_rfl) (by kernel_rfl) (fun _ _ _ h => h) (Or.inl ⟨by kernel_rfl, ?y10⟩) (by assumption) ?r10
  case y10 => (intro w hSw; (try dsimp only at hSw); first | (go_simp; done) | (go_simp; with_reducible rfl))
  try simp only [Act.put, List.setIfInBounds_toArray, List.set_cons_zero, List.set_cons_succ]
  refine wpAnyH_take (i := 11) (v := ?v11) rfl (by kernel_rfl) (by kernel_rfl) (by kernel_rfl) (fun _ _ _ h => h) (Or.inl ⟨by kernel_rfl, ?y11⟩) (by assumption) ?r11
  case y11 => (intro w hSw; (try dsimp only at hSw); first | (go_simp; done) | (go_simp; with_reducible rfl))
  try simp only [Act.put, List.setIfInBounds_toArray, List.set_cons_zero, List.set_cons_succ]
  refine wpAnyH_take (i := 12) (v := ?v12) rfl (by kernel_rfl) (by kernel_rfl) (by kernel_rfl) (fun _ _ _ h => h) (Or.inl ⟨by kernel_rfl, ?y12⟩) (by assumption) ?r12
  case y12 => (intro w hSw; (try dsimp only at hSw); first | (go_simp; done) | (go_simp; with_reducible rfl))
  try simp only [Act.put, List.setIfInBounds_toArray, List.set_cons_zero, List.set_cons_succ]
  refine wpAnyH_take (i := 13) (v := ?v13) rfl (by kernel_rfl) (by kernel_rfl) (by kernel_rfl) (fun _ _ _ h => h) (Or.inl ⟨by kernel_rfl, ?y13⟩) (by assumption) ?r13
  case y13 => (intro w hSw; (try dsimp only at hSw); first | (go_simp; done) | (go_simp; with_reducible rfl))
  try simp only [Act.put, List.setIfInBounds_toArray, List.set_cons_zero, List.set_cons_succ]
  refine wpAnyH_take (i := 14) (v := ?v14) rfl (by kernel_rfl) (by kernel_rfl) (by kernel_rfl) (fun _ _ _ h => h) (Or.inl ⟨by kernel_rfl, ?y14⟩) (by assumption) ?r14
  case y14 => (intro w hSw; (try dsimp only at hSw); first | (go_simp; done) | (go_simp; with_reducible rfl))
  try simp only [Act.put, List.setIfInBounds_toArray, List.set_cons_zero, List.set_cons_succ]
  refine wpAnyH_take (i := 15) (v := ?v15) rfl (by kernel_rfl) (by kernel_rfl) (by kernel_rfl) (fun _ _ _ h => h) (Or.inl ⟨by kernel_rfl, ?y15⟩) (by assumption) ?r15
  case y15 => (intro w hSw; (try dsimp only at hSw); first | (go_simp; done) | (go_simp; with_reducible rfl))
  try simp only [Act.put, List.setIfInBounds_toArray, List.set_cons_zero, List.set_cons_succ]
  refine wpAnyH_take (i := 16) (v := ?v16) rfl (by kernel_rfl) (by kernel_rfl) (by kernel_rfl) (fun _ _ _ h => h) (Or.inl ⟨by kernel_rfl, ?y16⟩) (by assumption) ?r16
  case y16 => (intro w hSw; (try dsimp only at hSw); first | (go_simp; done) | (go_simp; with_reducible rfl))
  try simp only [Act.put, List.setIfInBounds_toArray, List.set_cons_zero, List.set_cons_succ]
  refine wpAnyH_take (i := 17) (v := ?v17) rfl (by kernel_rfl) (by kernel_rfl) (by kernel_rfl) (fun _ _ _ h => h) (Or.inl ⟨by kernel_rfl, ?y17⟩) (by assumption) ?r17
  case y17 => (intro w hSw; (try dsimp only at hSw); first | (go_simp; done) | (go_simp; with_reducible rfl))
  try simp only [Act.put, List.setIfInBounds_toArray, List.set_cons_zero, List.set_cons_succ]
  refine wpAnyH_take (i := 18) (v := ?v18) rfl (by kernel_rfl) (by kernel_rfl) (by kernel_rfl) (fun _ _ _ h => h) (Or.inl ⟨by kernel_rfl, ?y18⟩) (by assumption) ?r18
  case y18 => (intro w hSw; (try dsimp only at hSw); first | (go_simp; done) | (go_simp; with_reducible rfl))
  try simp only [Act.put, List.setIfInBounds_toArray, List.set_cons_zero, List.set_cons_succ]
  refine wpAnyH_take (i := 19) (v := ?v19) rfl (by kernel_rfl) (by kernel_rfl) (by kernel_rfl) (fun _ _ _ h => h) (Or.inl ⟨by kernel_rfl, ?y19⟩) (by assumption) ?r19
  case y19 => (intro w hSw; (try dsimp only at hSw); first | (go_simp; done) | (go_simp; with_reducible rfl))
  try simp only [Act.put, List.setIfInBounds_toArray, List.set_cons_zero, List.set_cons_succ]
  refine wpAnyH_take (i := 20) (v := ?v20) rfl (by kernel_rfl) (by kernel_rfl) (by kernel_rfl) (fun _ _ _ h => h) (Or.inl ⟨by kernel_rfl, ?y20⟩) (by assumption) ?r20
  case y20 => (intro w hSw; (try dsimp only at hSw); first | (go_simp; done) | (go_simp; with_reducible rfl))
  try simp only [Act.put, List.setIfInBounds_toArray, List.set_cons_zero, List.set_cons_succ]
  refine wpAnyH_take (i := 21) (v := ?v21) rfl (by kernel_rfl) (by kernel_rfl) (by kernel_rfl) (fun _ _ _ h => h) (Or.inl ⟨by kernel_rfl, ?y21⟩) (by assumption) ?r21
  case y21 => (intro w hSw; (try dsimp only at hSw); first | (go_simp; done) | (go_simp; with_reducible rfl))
  try simp only [Act.put, List.setIfInBounds_toArray, List.set_cons_zero, List.set_cons_succ]
  refine wpAnyH_take (i := 22) (v := ?v22) rfl (by kernel_rfl) (by kernel_rfl) (by kernel_rfl) (fun _ _ _ h => h) (Or.inl ⟨by kernel_rfl, ?y22⟩) (by assumption) ?r22
  case y22 => (intro w hSw; (try dsimp only at hSw); first | (go_simp; done) | (go_simp; with_reducible rfl))
  try simp only [Act.put, List.setIfInBounds_toArray, List.set_cons_zero, List.set_cons_succ]
  refine wpAnyH_take (i := 23) (v := ?v23) rfl (by kernel_rfl) (by kernel_rfl) (by kernel_rfl) (fun _ _ _ h => h) (Or.inl ⟨by kernel_rfl, ?y23⟩) (by assumption) ?r23
  case y23 => (intro w hSw; (try dsimp only at hSw); first | (go_simp; done) | (go_simp; with_reducible rfl))
  try simp only [Act.put, List.setIfInBounds_toArray, List.set_cons_zero, List.set_cons_succ]
  refine wpAnyH_take (i := 24) (v := ?v24) rfl (by kernel_rfl) (by kernel_rfl) (by kernel_rfl) (fun _ _ _ h => h) (Or.inl ⟨by kernel_rfl, ?y24⟩) (by assumption) ?r24
  case y24 => (intro w hSw; (try dsimp only at hSw); first | (go_simp; done) | (go_simp; with_reducible rfl))
  try simp only [Act.put, List.setIfInBounds_toArray, List.set_cons_zero, List.set_cons_succ]
  refine wpAnyH_take (i := 25) (v := ?v25) rfl (by kernel_rfl) (by kernel_rfl) (by kernel_rfl) (fun _ _ _ h => h) (Or.inl ⟨by kernel_rfl, ?y25⟩) (by assumption) ?r25
  case y25 => (intro w hSw; (try dsimp only at hSw); first | (go_simp; done) | (go_simp; with_reducible rfl))
  try simp only [Act.put, List.setIfInBounds_toArray, List.set_cons_zero, List.set_cons_succ]
  refine wpAnyH_take (i := 26) (v := ?v26) rfl (by kernel_rfl) (by kernel_rfl) (by kernel_rfl) (fun _ _ _ h => h) (Or.inl ⟨by kernel_rfl, ?y26⟩) (by assumption) ?r26
  case y26 => (intro w hSw; (try dsimp only at hSw); first | (go_simp; done) | (go_simp; with_reducible rfl))
  try simp only [Act.put, List.setIfInBounds_toArray, List.set_cons_zero, List.set_cons_succ]
  refine wpAnyH_take (i := 27) (v := ?v27) rfl (by kernel_rfl) (by kernel_rfl) (by kernel_rfl) (fun _ _ _ h => h) (Or.inl ⟨by kernel_rfl, ?y27⟩) (by assumption) ?r27
  case y27 => (intro w hSw; (try dsimp only at hSw); first | (go_simp; done) | (go_simp; with_reducible rfl))
  try simp only [Act.put, List.setIfInBounds_toArray, List.set_cons_zero, List.set_cons_succ]
  refine wpAnyH_take (i := 28) (v := ?v28) rfl (by kernel_rfl) (by kernel_rfl) (by kernel_rfl) (fun _ _ _ h => h) (Or.inl ⟨by kernel_rfl, ?y28⟩) (by assumption) ?r28
  case y28 => (intro w hSw; (try dsimp only at hSw); first | (go_simp; done) | (go_simp; with_reducible rfl))
  try simp only [Act.put, List.setIfInBounds_toArray, List.set_cons_zero, List.set_cons_succ]
  refine wpAnyH_ready (rs := [29]) (by kernel_rfl) (by simp) ?_
  refine AllReadyH.cons rfl (fun K hK => ?_) AllReadyH.nil
  go_simp
  refine (rpX_new hp i hO).mono ?_
  rintro e w4 ⟨kp, rfl, hN⟩
  have hN := hN.p2
  clear hO
  clear c0 c1 c2 c3 c4 c5 c6 c7 c8 c9 c10 c11 c12 c13 c14 c15 c16 c17 c18 c19 c20 c21 cf x0
  obtain ⟨c0, c1, c2, c3, c4, c5, c6, c7, c8, c9, c10, c11, c12, c13, c14, c15, c16, c17, c18, c19, c20, c21, cf⟩ := rdCells hN
  have x0 := rdR_pc hp (hN.p2) i hi
  refine hK.out _ _ ?_ (fun hHeld => ?_)
  · exact ⟨c0, c1, c2, c3, c4, c5, c6, c7, c9, c10, c11, c13, x0⟩
  clear hK K
  try simp only [Act.put, List.setIfInBounds_toArray, List.set_cons_zero, List.set_cons_succ]
  refine wpAnyH_take (i := 30) (v := ?v30) rfl (by kernel_rfl) (by kernel_rfl) (by kernel_rfl) (fun _ _ _ h => h) (Or.inl ⟨by kernel_rfl, ?y30⟩) (by assumption) ?r30
  case y30 => (intro w hSw; (try dsimp only at hSw); first | (go_simp; done) | (go_simp; with_reducible rfl))
  try simp only [Act.put, List.setIfInBounds_toArray, List.set_cons_zero, List.set_cons_succ]
  refine wpAnyH_take (i := 31) (v := ?v31) rfl (by kernel_rfl) (by kernel_rfl) (by kernel_rfl) (fun _ _ _ h => h) (Or.inl ⟨by kernel_rfl, ?y31⟩) (by assumption) ?r31
  case y31 => (intro w hSw; (try dsimp only at hSw); first | (go_simp; done) | (go_simp; with_reducible rfl))
  try simp only [Act.put, List.setIfInBounds_toArray, List.set_cons_zero, List.set_cons_succ]
  refine wpAnyH_ready (rs := [32]) (by kernel_rfl) (by simp) ?_
  refine AllReadyH.cons rfl (fun K hK => ?_) AllReadyH.nil
  go_simp
  have hF := hN.set 15 (.pointer (some ⟨kp, 0, none⟩))
  clear c0 c1 c2 c3 c4 c5 c6 c7 c8 c9 c10 c11 c12 c13 c14 c15 c16 c17 c18 c19 c20 c21 cf x0
  obtain ⟨c0, c1, c2, c3, c4, c5, c6, c7, c8, c9, c10, c11, c12, c13, c14, c15, c16, c17, c18, c19, c20, c21, cf⟩ := rdCells (vP := some ⟨kp, 0, none⟩) (vA := vA) (c := p.c) (vp := vp) (vl := vl) (hF)
  have x0 := rdR_pc hp (hF.p2) i hi
  refine hK.out _ _ ?_ (fun hHeld => ?_)
  · exact ⟨c0, c1, c2, c3, c4, c5, c6, c7, c9, c10, c11, c13, x0⟩
  clear hK K
  try simp only [Act.put, List.setIfInBounds_toArray, List.set_cons_zero, List.set_cons_succ]
  refine wpAnyH_done (by kernel_rfl) ?_ _
  go_wp2_with fail
  go_end0
  exact ⟨rfl, kp, hF⟩
theorem rdClaimed_full {s : CS} (he : erC s = 3) (hn : s.n = 0) (h : Own w0 F0 (blk k (rdO p.c vp vl p.v p.n p.t vq 0 0 vP vA lv 0 0 0 kc) :: rcX kc p s :: L) w) :
    Calls Tryz.prog 76 #[.pointer (some ⟨k, 0, none⟩)] w fun e w' => e = .returned (.tuple #[]) ∧ Own w0 F0 (blk k (rdO p.c vp vl p.v p.n p.t vq 6 0 vP vA lv 3 0 0 kc) :: rcX kc p s :: L) w' := by
  have HA := fun w (h : Own w0 F0 (blk k (rdO p.c vp vl p.v p.n p.t vq 0 0 vP vA lv 0 0 0 kc) :: rcX kc p s :: L) w) => Lib.hid (rcX_ans h.swap)
  rw [he, hn, show ((0 : Nat) : Int) = 0 from rfl] at HA
  have qe := fld12E 3 0 false 0
  obtain ⟨c0, c1, c2, c3, c4, c5, c6, c7, c8, c9, c10, c11, c12, c13, c14, c15, c16, c17, c18, c19, c20, c21, cf⟩ := rdCells h
  have H1 := Lib.hid h
  clear h he hn
  go_enter Tryz.func76, Tryz.ntmps76
  go_wp2_with fail
  refine (HA _ H1.out).out.mono ?_
  rintro e w1 ⟨rfl, hB⟩
  have h2 := H1.out.below hB
  clear H1 hB c0 c1 c2 c3 c4 c5 c6 c7 c8 c9 c10 c11 c12 c13 c14 c15 c16 c17 c18 c19 c20 c21 cf
  obtain ⟨c0, c1, c2, c3, c4, c5, c6, c7, c8, c9, c10, c11, c12, c13, c14, c15, c16, c17, c18, c19, c20, c21, cf⟩ := rdCells h2
  have H2 := Lib.hid h2
  clear h2
  go_wp2_with fail
  refine (HA _ H2.out).out.mono ?_
  rintro e w2 ⟨rfl, hB⟩
  have h3 := H2.out.below hB
  clear H2 hB HA c0 c1 c2 c3 c4 c5 c6 c7 c8 c9 c10 c11 c12 c13 c14 c15 c16 c17 c18 c19 c20 c21 cf
  obtain ⟨c0, c1, c2, c3, c4, c5, c6, c7, c8, c9, c10, c11, c12, c13, c14, c15, c16, c17, c18, c19, c20, c21, cf⟩ := rdCells h3
  have H4 := Lib.hid (((((h3.set 18 (.int .i64 3)).set 19 (.int .i64 0)).set 20 (.bool false)).set 21 (.int .i64 0)).set 12 (.int .i64 6))
  clear h3
  go_wp2_with fail
  refine bodyPost_ret (results_none rfl _ _ _) rfl ?_
  exact ⟨rfl, H4.out⟩
theorem rdClaimed_ok {s : CS} (hp : p.Ok) (he : erC s = 0) (h : Own w0 F0 (blk k (rdO p.c vp vl p.v p.n p.t vq 0 0 vP vA lv er an nn kc) :: rdR vp vl vq p :: rcX kc p s :: L) w) :
    Calls Tryz.prog 76 #[.pointer (some ⟨k, 0, none⟩)] w fun e w' => e = .returned (.tuple #[]) ∧ ∃ kp, Own w0 F0 (blk k (rdO p.c vp vl p.v p.n p.t vq 1 0 (some ⟨kp, 0, none⟩) vA lv er an nn kc) :: rpX kp p 0 s0P :: rdR vp vl vq p :: rcX kc p s :: L) w' := by
  have HA := Lib.hid (rcX_ans h.p2)
  rw [he] at HA
  have HP := fun w (h : Own w0 F0 (blk k (rdO p.c vp vl p.v p.n p.t vq 1 (0 : Nat) vP vA lv er an nn kc) :: rdR vp vl vq p :: rcX kc p s :: L) w) => Lib.hid (rdPool (i := 0) hp (DP.len_bd hp).1 h)
  have qe := fld12E 0 (s.n : Int) false 0
  obtain ⟨c0, c1, c2, c3, c4, c5, c6, c7, c8, c9, c10, c11, c12, c13, c14, c15, c16, c17, c18, c19, c20, c21, cf⟩ := rdCells h
  have H1 := Lib.hid h
  clear h he hp
  generalize (s.n : Int) = sn at HA qe
  go_enter Tryz.func76, Tryz.ntmps76
  go_wp2_with fail
  refine HA.out.mono ?_
  rintro e w1 ⟨rfl, hB⟩
  have h2 := H1.out.below hB
  clear H1 hB HA c0 c1 c2 c3 c4 c5 c6 c7 c8 c9 c10 c11 c12 c13 c14 c15 c16 c17 c18 c19 c20 c21 cf
  obtain ⟨c0, c1, c2, c3, c4, c5, c6, c7, c8, c9, c10, c11, c12, c13, c14, c15, c16, c17, c18, c19, c20, c21, cf⟩ := rdCells h2
  have H2 := Lib.hid (h2.set 12 (.int .i64 1))
  clear h2
  go_wp2_with fail
  have h3 : Own w0 F0 (blk k (rdO p.c vp vl p.v p.n p.t vq 1 (0 : Nat) vP vA lv er an nn kc) :: rdR vp vl vq p :: rcX kc p s :: L) _ := H2.out
  generalize World.setCell _ _ _ = w3 at h3 ⊢
  clear H2 c0 c1 c2 c3 c4 c5 c6 c7 c8 c9 c10 c11 c12 c13 c14 c15 c16 c17 c18 c19 c20 c21 cf
  refine (HP _ h3).out.mono ?_
  rintro e w4 ⟨rfl, kp, h4⟩
  have H4 := Lib.hid h4
  clear h4 h3 HP
  go_wp2_with fail
  go_end0
  exact ⟨rfl, kp, H4.out⟩
theorem rdPooled_no {kp : Nat} {s : PS} (he : erP s = 4) (hn : anP (p.nd i) s = p.nd i) (h : Own w0 F0 (blk k (rdO p.c vp vl p.v p.n p.t vq 1 i (some ⟨kp, 0, none⟩) vA lv er an nn kc) :: rpX kp p i s :: L) w) :
    Calls Tryz.prog 78 #[.pointer (some ⟨k, 0, none⟩)] w fun e w' => e = .returned (.tuple #[]) ∧ Own w0 F0 (blk k (rdO p.c vp vl p.v p.n p.t vq 2 i (some ⟨kp, 0, none⟩) vA lv 4 0 (p.nd i) kc) :: L) w' := by
  have HA := fun w (h : Own w0 F0 (blk k (rdO p.c vp vl p.v p.n p.t vq 1 i (some ⟨kp, 0, none⟩) vA lv er an nn kc) :: rpX kp p i s :: L) w) => Lib.hid (rpX_ans h.swap)
  rw [he, hn] at HA
  have qe := fld12E 4 0 false (p.nd i)
  obtain ⟨c0, c1, c2, c3, c4, c5, c6, c7, c8, c9, c10, c11, c12, c13, c14, c15, c16, c17, c18, c19, c20, c21, cf⟩ := rdCells h
  have H1 := Lib.hid h
  clear h he hn
  go_enter Tryz.func78, Tryz.ntmps78
  go_wp2_with fail
  refine (HA _ H1.out).out.mono ?_
  rintro e w1 ⟨rfl, hB⟩
  have h2 := H1.out.below hB
  clear H1 hB c0 c1 c2 c3 c4 c5 c6 c7 c8 c9 c10 c11 c12 c13 c14 c15 c16 c17 c18 c19 c20 c21 cf
  obtain ⟨c0, c1, c2, c3, c4, c5, c6, c7, c8, c9, c10, c11, c12, c13, c14, c15, c16, c17, c18, c19, c20, c21, cf⟩ := rdCells h2
  have H2 := Lib.hid h2
  clear h2
  go_wp2_with fail
  refine (HA _ H2.out).out.mono ?_
  rintro e w2 ⟨rfl, hB⟩
  have h3 := H2.out.below hB
  clear H2 hB HA c0 c1 c2 c3 c4 c5 c6 c7 c8 c9 c10 c11 c12 c13 c14 c15 c16 c17 c18 c19 c20 c21 cf
  obtain ⟨c0, c1, c2, c3, c4, c5, c6, c7, c8, c9, c10, c11, c12, c13, c14, c15, c16, c17, c18, c19, c20, c21, cf⟩ := rdCells h3
  have H4 := Lib.hid ((((((h3.set 18 (.int .i64 4)).set 19 (.int .i64 0)).set 20 (.bool false)).set 21 (.int .i64 (p.nd i))).set 12 (.int .i64 2)).under fun _ _ h => h.drop)
  clear h3
  go_wp2_with fail
  refine bodyPost_ret (results_none rfl _ _ _) rfl ?_
  exact ⟨rfl, H4.out⟩
theorem rdPooled_last {kp : Nat} {s : PS} (hp : p.Ok) (hi : i < p.len) (he : erP s = 0) (hl2 : i + 1 = p.len) (h : Own w0 F0 (blk k (rdO p.c vp vl p.v p.n p.t vq 1 i (some ⟨kp, 0, none⟩) vA lv er an nn kc) :: rpX kp p i s :: rdR vp vl vq p :: L) w) :
    Calls Tryz.prog 78 #[.pointer (some ⟨k, 0, none⟩)] w fun e w' => e = .returned (.tuple #[]) ∧ Own w0 F0 (blk k (rdO p.c vp vl p.v p.n p.t vq 3 (i + 1 : Nat) (some ⟨kp, 0, none⟩) vA lv er an nn kc) :: rdR vp vl vq p :: L) w' := by
  obtain ⟨b, off, cap, rfl, -⟩ := rdR_q hp h.p2
  have HA := Lib.hid (rpX_ans h.swap)
  rw [he] at HA
  have qe := fld12E 0 0 false (anP (p.nd i) s)
  generalize anP (p.nd i) s = AN at HA qe
  have hl := DP.len_bd hp
  have hw1 : IntKind.i64.wrap ((i : Int) + 1) = (i : Int) + 1 := IntWalk.i64_in _ (by omega)
  have E1 := Lib.hid (show ((i : Int) + 1) = ((i + 1 : Nat) : Int) by omega)
  have hd : (((i : Int) + 1) == (p.len : Int)) = true := by rw [beq_iff_eq]; omega
  obtain ⟨c0, c1, c2, c3, c4, c5, c6, c7, c8, c9, c10, c11, c12, c13, c14, c15, c16, c17, c18, c19, c20, c21, cf⟩ := rdCells h
  have H1 := Lib.hid h
  clear h he hp hl hl2
  go_enter Tryz.func78, Tryz.ntmps78
  go_wp2_with fail
  refine HA.out.mono ?_
  rintro e w1 ⟨rfl, hB⟩
  have h2 := H1.out.below hB
  clear H1 hB HA c0 c1 c2 c3 c4 c5 c6 c7 c8 c9 c10 c11 c12 c13 c14 c15 c16 c17 c18 c19 c20 c21 cf
  obtain ⟨c0, c1, c2, c3, c4, c5, c6, c7, c8, c9, c10, c11, c12, c13, c14, c15, c16, c17, c18, c19, c20, c21, cf⟩ := rdCells h2
  have H2 := Lib.hid ((h2.set 13 (.int .i64 ((i : Int) + 1))).under fun _ _ h => h.drop)
  clear h2
  go_wp2_with fail
  have h3 : Own w0 F0 (blk k (rdO p.c vp vl p.v p.n p.t (.slice (some ⟨b, off, none⟩) p.len cap) 1 ((i : Int) + 1) (some ⟨kp, 0, none⟩) vA lv er an nn kc) :: rdR vp vl _ p :: L) _ := H2.out
  generalize World.setCell _ _ _ = w3 at h3 ⊢
  clear H2 c0 c1 c2 c3 c4 c5 c6 c7 c8 c9 c10 c11 c12 c13 c14 c15 c16 c17 c18 c19 c20 c21 cf
  obtain ⟨c0, c1, c2, c3, c4, c5, c6, c7, c8, c9, c10, c11, c12, c13, c14, c15, c16, c17, c18, c19, c20, c21, cf⟩ := rdCells h3
  have HQ := Lib.hid (fun q => h3.drewN q)
  clear h3
  go_quiet (fail)
  have h4 := HQ.out nq
  clear HQ c0 c1 c2 c3 c4 c5 c6 c7 c8 c9 c10 c11 c12 c13 c14 c15 c16 c17 c18 c19 c20 c21 cf
  generalize World.drewN w3 nq = w4 at *
  obtain ⟨c0, c1, c2, c3, c4, c5, c6, c7, c8, c9, c10, c11, c12, c13, c14, c15, c16, c17, c18, c19, c20, c21, cf⟩ := rdCells h4
  have H5 := Lib.hid (h4.set 12 (.int .i64 3))
  clear h4
  go_wp2_with fail
  refine bodyPost_ret (results_none rfl _ _ _) rfl ?_
  refine ⟨rfl, ?_⟩
  have h6 : Own w0 F0 (blk k (rdO p.c vp vl p.v p.n p.t (.slice (some ⟨b, off, none⟩) p.len cap) 3 ((i : Int) + 1) (some ⟨kp, 0, none⟩) vA lv er an nn kc) :: rdR vp vl _ p :: L) _ := H5.out
  rw [E1.out] at h6
  exact h6
theorem rdPooled_more {kp : Nat} {s : PS} (hp : p.Ok) (hi : i < p.len) (he : erP s = 0) (hl2 : i + 1 < p.len) (h : Own w0 F0 (blk k (rdO p.c vp vl p.v p.n p.t vq 1 i (some ⟨kp, 0, none⟩) vA lv er an nn kc) :: rpX kp p i s :: rdR vp vl vq p :: L) w) :
    Calls Tryz.prog 78 #[.pointer (some ⟨k, 0, none⟩)] w fun e w' => e = .returned (.tuple #[]) ∧ ∃ kp, Own w0 F0 (blk k (rdO p.c vp vl p.v p.n p.t vq 1 (i + 1 : Nat) (some ⟨kp, 0, none⟩) vA lv er an nn kc) :: rpX kp p (i + 1) s0P :: rdR vp vl vq p :: L) w' := by
  obtain ⟨b, off, cap, rfl, -⟩ := rdR_q hp h.p2
  have HA := Lib.hid (rpX_ans h.swap)
  rw [he] at HA
  have qe := fld12E 0 0 false (anP (p.nd i) s)
  generalize anP (p.nd i) s = AN at HA qe
  have hl := DP.len_bd hp
  have hw1 : IntKind.i64.wrap ((i : Int) + 1) = (i : Int) + 1 := IntWalk.i64_in _ (by omega)
  have E1 := Lib.hid (show ((i : Int) + 1) = ((i + 1 : Nat) : Int) by omega)
  have hd : (((i : Int) + 1) == (p.len : Int)) = false := by rw [beq_eq_false_iff_ne]; omega
  have HP := fun w (h : Own w0 F0 (blk k (rdO p.c vp vl p.v p.n p.t (.slice (some ⟨b, off, none⟩) p.len cap) 1 (i + 1 : Nat) (some ⟨kp, 0, none⟩) vA lv er an nn kc) :: rdR vp vl (.slice (some ⟨b, off, none⟩) p.len cap) p :: L) w) => Lib.hid (rdPool (i := i + 1) hp hl2 h)
  obtain ⟨c0, c1, c2, c3, c4, c5, c6, c7, c8, c9, c10, c11, c12, c13, c14, c15, c16, c17, c18, c19, c20, c21, cf⟩ := rdCells h
  have H1 := Lib.hid h
  clear h he hp hl hl2
  go_enter Tryz.func78, Tryz.ntmps78
  go_wp2_with fail
  refine HA.out.mono ?_
  rintro e w1 ⟨rfl, hB⟩
  have h2 := H1.out.below hB
  clear H1 hB HA c0 c1 c2 c3 c4 c5 c6 c7 c8 c9 c10 c11 c12 c13 c14 c15 c16 c17 c18 c19 c20 c21 cf
  obtain ⟨c0, c1, c2, c3, c4, c5, c6, c7, c8, c9, c10, c11, c12, c13, c14, c15, c16, c17, c18, c19, c20, c21, cf⟩ := rdCells h2
  have H2 := Lib.hid ((h2.set 13 (.int .i64 ((i : Int) + 1))).under fun _ _ h => h.drop)
  clear h2
  go_wp2_with fail
  have h3 : Own w0 F0 (blk k (rdO p.c vp vl p.v p.n p.t (.slice (some ⟨b, off, none⟩) p.len cap) 1 ((i : Int) + 1) (some ⟨kp, 0, none⟩) vA lv er an nn kc) :: rdR vp vl _ p :: L) _ := H2.out
  generalize World.setCell _ _ _ = w3 at h3 ⊢
  clear H2 c0 c1 c2 c3 c4 c5 c6 c7 c8 c9 c10 c11 c12 c13 c14 c15 c16 c17 c18 c19 c20 c21 cf
  obtain ⟨c0, c1, c2, c3, c4, c5, c6, c7, c8, c9, c10, c11, c12, c13, c14, c15, c16, c17, c18, c19, c20, c21, cf⟩ := rdCells h3
  have HQ := Lib.hid (fun q => h3.drewN q)
  clear h3
  go_quiet (fail)
  have h4 := HQ.out nq
  clear HQ c0 c1 c2 c3 c4 c5 c6 c7 c8 c9 c10 c11 c12 c13 c14 c15 c16 c17 c18 c19 c20 c21 cf
  generalize World.drewN w3 nq = w4 at *
  obtain ⟨c0, c1, c2, c3, c4, c5, c6, c7, c8, c9, c10, c11, c12, c13, c14, c15, c16, c17, c18, c19, c20, c21, cf⟩ := rdCells h4
  rw [E1.out] at h4
  have H4 := Lib.hid h4
  clear h4
  go_wp2_with fail
  refine (HP _ H4.out).out.mono ?_
  rintro e w5 ⟨rfl, kp, h5⟩
  have H5 := Lib.hid h5
  clear h5 H4 HP c0 c1 c2 c3 c4 c5 c6 c7 c8 c9 c10 c11 c12 c13 c14 c15 c16 c17 c18 c19 c20 c21 cf
  go_wp2_with fail
  go_end0
  exact ⟨rfl, kp, H5.out⟩
set_option maxHeartbeats 2000000 in
theorem rdPut {a1 a2 : Option Addr} {c1 c2 : Nat} (hp : p.Ok) (hi : i < p.len) (h : Own w0 F0 L w) :
    Calls Tryz.prog 85 #[cfV p.c (.slice a1 p.c.ps.length c1) (.slice a2 p.c.ls.length c2), .int .i64 (p.nd i), .int .i64 p.n, .int .i64 p.t] w fun e w' => ∃ ka, e = .returned (.pointer (some ⟨ka, 0, none⟩)) ∧ Own w0 F0 (rmA ka (p.ap i) (s0A p.t) :: L) w' := by
  have n1 := hp.rt.n1
  have hnd := DP.nd_lt hp i hi
  have HC := fun w => (show Calls Tryz.prog 22 #[cfV p.c (.slice a1 p.c.ps.length c1) (.slice a2 p.c.ls.length c2), .int .i64 (p.nd i)] w fun e w' => e = .returned (.int .i64 (ctN p.c (p.nd i))) ∧ Below w.heap.size w w' from by
    have h := rCounter_q (pp := a1) (np := p.c.ps.length) (cp := c1) (pl := a2) (nl := p.c.ls.length) (cl := c2) p.c hp.rt.sm ((p.nd i : Nat) : Int) (by omega) (by omega) w
    rw [limN_eq hp.rt.sm] at h
    rw [show ((ctN p.c (p.nd i) : Nat) : Int) = (limN p.c (p.nd i) : Int) + 2 + p.c.st from by unfold ctN; have := (st_nat hp.rt).1; omega]
    exact h)
  have HN := fun L w (h : Own w0 F0 L w) => Lib.hid (show Calls Tryz.prog 119 #[.int .i64 (ctN p.c (p.nd i)), .int .i64 p.c.st, .int .i64 p.c.ga, .int .i64 p.n, .int .i64 p.t] w fun e w' => ∃ k, e = .returned (.pointer (some ⟨k, 0, none⟩)) ∧ Own w0 F0 (rmA k (p.ap i) (s0A p.t) :: L) w' from rNewM_any (p.ap i) p.t (by omega) (by have := hp.t; omega) h)
  have h1 := h.new (cfO p.c (.slice a1 p.c.ps.length c1) (.slice a2 p.c.ls.length c2))
  obtain ⟨BX, hBX⟩ : ∃ BX, BX = w.heap.size := ⟨_, rfl⟩
  rw [← hBX] at h1
  have hO := h1.drew
  obtain ⟨d0, d1, d2, d3, d4, d5, d6, d7⟩ := conf_cells hO
  have HO := Lib.hid hO
  clear h h1 hO hnd n1
  generalize ctN p.c (p.nd i) = CT at *
  go_enter Tryz.func85, Tryz.ntmps85
  go_wp2_with fail
  rw [← hBX]
  clear hBX
  go_region_held3 (fun w' => w'.cell? ⟨BX, 0, none⟩ = some (.int .i64 p.c.th) ∧ w'.cell? ⟨BX, 1, none⟩ = some (.int .i64 p.c.st) ∧ w'.cell? ⟨BX, 2, none⟩ = some (.int .i64 p.c.ga) ∧ w'.cell? ⟨BX, 3, none⟩ = some (.int .i64 p.c.le) ∧ w'.cell? ⟨BX, 4, none⟩ = some (.int .i64 p.c.re) ∧ w'.cell? ⟨BX, 5, none⟩ = some (.int .i64 p.c.ti) ∧ w'.cell? ⟨BX, 6, none⟩ = some (.slice a1 p.c.ps.length c1) ∧ w'.cell? ⟨BX, 7, none⟩ = some (.slice a2 p.c.ls.length c2)) (go_keep)
    (first
      | (go_at_call 22; refine (HC _).mono ?_; rintro e w5 ⟨rfl, hB⟩; have HO := Lib.hid (HO.out.below hB); clear hB; obtain ⟨d0, d1, d2, d3, d4, d5, d6, d7⟩ := conf_cells HO.out)
      | (go_at_call 119; refine (HN _ _ HO.out).out.mono ?_; rintro e w6 ⟨ka, rfl, hM⟩; obtain ⟨d0, d1, d2, d3, d4, d5, d6, d7⟩ := conf_cells hM.swap))
  all_goals
    have HM := Lib.hid (hM.under fun _ _ h => h.drop)
    clear hM d0 d1 d2 d3 d4 d5 d6 d7
    go_wp2_with fail
    go_ret
    exact ⟨ka, rfl, HM.out⟩
set_option maxHeartbeats 4000000 in
theorem rdAdded_more {ka : Nat} {K : Asn} (hp : p.Ok) (hi : i < p.len) (hl2 : i + 1 < p.len) (h : Own w0 F0 (blk k (rdO p.c vp vl p.v p.n p.t vq 5 i vP (some ⟨ka, 0, none⟩) lv 0 0 0 kc) :: rdR vp vl vq p :: K :: L) w) :
    Calls Tryz.prog 87 #[.pointer (some ⟨k, 0, none⟩)] w fun e w' => e = .returned (.tuple #[]) ∧ ∃ ka, Own w0 F0 (blk k (rdO p.c vp vl p.v p.n p.t vq 5 (i + 1 : Nat) vP (some ⟨ka, 0, none⟩) lv 0 0 0 kc) :: rmA ka (p.ap (i + 1)) (s0A p.t) :: rdR vp vl vq p :: K :: L) w' := by
  obtain ⟨b, off, cap, rfl, -⟩ := rdR_q hp h.swap
  have hl := DP.len_bd hp
  have hw1 : IntKind.i64.wrap ((i : Int) + 1) = (i : Int) + 1 := IntWalk.i64_in _ (by omega)
  obtain ⟨j, hj⟩ : ∃ j, j = i + 1 := ⟨_, rfl⟩
  rw [← hj] at hl2 ⊢
  have E1 := Lib.hid (show ((i : Int) + 1) = ((j : Nat) : Int) by omega)
  have hd : decide (((i : Int) + 1) < (p.len : Int)) = true := by simp; omega
  have hd2 : ((i : Int) + 1) < (p.len : Int) := by omega
  clear hj
  obtain ⟨c0, c1, c2, c3, c4, c5, c6, c7, c8, c9, c10, c11, c12, c13, c14, c15, c16, c17, c18, c19, c20, c21, cf⟩ := rdCells h
  have H1 := Lib.hid (h.set 13 (.int .i64 ((i : Int) + 1)))
  have Hp := Lib.hid hp
  have Hi2 := Lib.hid hl2
  clear h hp hl hl2
  go_enter Tryz.func87, Tryz.ntmps87
  go_wp2_with fail
  have h3 : Own w0 F0 (blk k (rdO p.c vp vl p.v p.n p.t (.slice (some ⟨b, off, none⟩) p.len cap) 5 ((i : Int) + 1) vP (some ⟨ka, 0, none⟩) lv 0 0 0 kc) :: rdR vp vl (.slice (some ⟨b, off, none⟩) p.len cap) p :: _ :: L) _ := H1.out
  generalize World.setCell _ _ _ = w3 at h3 ⊢
  clear H1 c0 c1 c2 c3 c4 c5 c6 c7 c8 c9 c10 c11 c12 c13 c14 c15 c16 c17 c18 c19 c20 c21 cf
  obtain ⟨c0, c1, c2, c3, c4, c5, c6, c7, c8, c9, c10, c11, c12, c13, c14, c15, c16, c17, c18, c19, c20, c21, cf⟩ := rdCells h3
  have HQ := Lib.hid (fun q => h3.drewN q)
  clear h3
  go_quiet (fail)
  have h4 := HQ.out nq
  clear HQ c0 c1 c2 c3 c4 c5 c6 c7 c8 c9 c10 c11 c12 c13 c14 c15 c16 c17 c18 c19 c20 c21 cf
  generalize World.drewN w3 nq = w4 at *
  rw [E1.out] at h4
  obtain ⟨c0, c1, c2, c3, c4, c5, c6, c7, c8, c9, c10, c11, c12, c13, c14, c15, c16, c17, c18, c19, c20, c21, cf⟩ := rdCells h4
  have i1 : ((j : Nat) : Int) < (p.len : Int) := by have := Hi2.out; omega
  have i2 : decide (((j : Nat) : Int) < (p.len : Int)) = true := by simp; omega
  obtain ⟨a1, z1, a2, z2, rfl, rfl⟩ := rdR_sl h4.swap
  have hO := h4.drew.swap
  have x0 := rdR_pc Hp.out hO j Hi2.out
  obtain ⟨c0, c1, c2, c3, c4, c5, c6, c7, c8, c9, c10, c11, c12, c13, c14, c15, c16, c17, c18, c19, c20, c21, cf⟩ := rdCells hO.swap
  have hi1 := Hi2.out
  have hp := Hp.out
  clear h4 hd hd2 E1 hw1 Hi2
  go_wp2_with fail
  refine wp_region_held_drew (S := (fun w' => w'.cell? ⟨k, 0, none⟩ = some (.int .i64 p.c.th) ∧ w'.cell? ⟨k, 1, none⟩ = some (.int .i64 p.c.st) ∧ w'.cell? ⟨k, 2, none⟩ = some (.int .i64 p.c.ga) ∧ w'.cell? ⟨k, 3, none⟩ = some (.int .i64 p.c.le) ∧ w'.cell? ⟨k, 4, none⟩ = some (.int .i64 p.c.re) ∧ w'.cell? ⟨k, 5, none⟩ = some (.int .i64 p.c.ti) ∧ w'.cell? ⟨k, 6, none⟩ = some ((.slice a1 p.c.ps.length z1)) ∧ w'.cell? ⟨k, 7, none⟩ = some ((.slice a2 p.c.ls.length z2)) ∧ w'.cell? ⟨k, 9, none⟩ = some (.int .i64 p.n) ∧ w'.cell? ⟨k, 10, none⟩ = some (.int .i64 p.t) ∧ w'.cell? ⟨k, 11, none⟩ = some (.slice (some ⟨b, off, none⟩) p.len cap) ∧ w'.cell? ⟨k, 13, none⟩ = some (.int .i64 j) ∧ w'.cell? ⟨b, off + j, none⟩ = some (.int .i64 (p.nd j)))) (by kernel_rfl) ?_ (fun hHeld => ?_)
  · exact ⟨c0, c1, c2, c3, c4, c5, c6, c7, c9, c10, c11, c13, x0⟩
  refine wpAnyH_take (i := 0) (v := ?v0) rfl (by kernel_rfl) (by kernel_rfl) (by kernel_rfl) (fun _ _ _ h => h) (Or.inl ⟨by kernel_rfl, ?y0⟩) (by assumption) ?r0
  case y0 => (intro w hSw; (try dsimp only at hSw); first | (go_simp; done) | (go_simp; with_reducible rfl))
  try simp only [Act.put, List.setIfInBounds_toArray, List.set_cons_zero, List.set_cons_succ]
  refine wpAnyH_take (i := 1) (v := ?v1) rfl (by kernel_rfl) (by kernel_rfl) (by kernel_rfl) (fun _ _ _ h => h) (Or.inl ⟨by kernel_rfl, ?y1⟩) (by assumption) ?r1
  case y1 => (intro w hSw; (try dsimp only at hSw); first | (go_simp; done) | (go_simp; with_reducible rfl))
  try simp only [Act.put, List.setIfInBounds_toArray, List.set_cons_zero, List.set_cons_succ]
  refine wpAnyH_take (i := 2) (v := ?v2) rfl (by kernel_rfl) (by kernel_rfl) (by kernel_rfl) (fun _ _ _ h => h) (Or.inl ⟨by kernel_rfl, ?y2⟩) (by assumption) ?r2
  case y2 => (intro w hSw; (try dsimp only at hSw); first | (go_simp; done) | (go_simp; with_reducible rfl))
  try simp only [Act.put, List.setIfInBounds_toArray, List.set_cons_zero, List.set_cons_succ]
  refine wpAnyH_take (i := 3) (v := ?v3) rfl (by kernel_rfl) (by kernel_rfl) (by kernel_rfl) (fun _ _ _ h => h) (Or.inl ⟨by kernel_rfl, ?y3⟩) (by assumption) ?r3
  case y3 => (intro w hSw; (try dsimp only at hSw); first | (go_simp; done) | (go_simp; with_reducible rfl))
  try simp only [Act.put, List.setIfInBounds_toArray, List.set_cons_zero, List.set_cons_succ]
  refine wpAnyH_take (i := 4) (v := ?v4) rfl (by kernel_rfl) (by kernel_rfl) (by kernel_rfl) (fun _ _ _ h => h) (Or.inl ⟨by kernel_rfl, ?y4⟩) (by assumption) ?r4
  case y4 => (intro w hSw; (try dsimp only at hSw); first | (go_simp; done) | (go_simp; with_reducible rfl))
  try simp only [Act.put, List.setIfInBounds_toArray, List.set_cons_zero, List.set_cons_succ]
  refine wpAnyH_take (i := 5) (v := ?v5) rfl (by kernel_rfl) (by kernel_rfl) (by kernel_rfl) (fun _ _ _ h => h) (Or.inl ⟨by kernel_rfl, ?y5⟩) (by assumption) ?r5
  case y5 => (intro w hSw; (try dsimp only at hSw); first | (go_simp; done) | (go_simp; with_reducible rfl))
  try simp only [Act.put, List.setIfInBounds_toArray, List.set_cons_zero, List.set_cons_succ]
  refine wpAnyH_take (i := 6) (v := ?v6) rfl (by kernel_rfl) (by kernel_rfl) (by kernel_rfl) (fun _ _ _ h => h) (Or.inl ⟨by kernel_rfl, ?y6⟩) (by assumption) ?r6
  case y6 => (intro w hSw; (try dsimp only at hSw); first | (go_simp; done) | (go_simp; with_reducible rfl))
  try simp only [Act.put, List.setIfInBounds_toArray, List.set_cons_zero, List.set_cons_succ]
  refine wpAnyH_take (i := 7) (v := ?v7) rfl (by kernel_rfl) (by kernel_rfl) (by kernel_rfl) (fun _ _ _ h => h) (Or.inl ⟨by kernel_rfl, ?y7⟩) (by assumption) ?r7
  case y7 => (intro w hSw; (try dsimp only at hSw); first | (go_simp; done) | (go_simp; with_reducible rfl))
  try simp only [Act.put, List.setIfInBounds_toArray, List.set_cons_zero, List.set_cons_succ]
  refine wpAnyH_take (i := 8) (v := ?v8) rfl (by kernel_rfl) (by kernel_rfl) (by kernel_rfl) (fun _ _ _ h => h) (Or.inl ⟨by kernel_rfl, ?y8⟩) (by assumption) ?r8
  case y8 => (intro w hSw; (try dsimp only at hSw); first | (go_simp; done) | (go_simp; with_reducible rfl))
  try simp only [Act.put, List.setIfInBounds_toArray, List.set_cons_zero, List.set_cons_succ]
  refine wpAnyH_take (i := 9) (v := ?v9) rfl (by kernel_rfl) (by kernel_rfl) (by kernel_rfl) (fun _ _ _ h => h) (Or.inl ⟨by kernel_rfl, ?y9⟩) (by assumption) ?r9
  case y9 => (intro w hSw; (try dsimp only at hSw); first | (go_simp; done) | (go_simp; with_reducible rfl))
  try simp only [Act.put, List.setIfInBounds_toArray, List.set_cons_zero, List.set_cons_succ]
  refine wpAnyH_take (i := 10) (v := ?v10) rfl (by kernel_rfl) (by kernel_rfl) (by kernel_rfl) (fun _ _ _ h => h) (Or.inl ⟨by kernel_rfl, ?y10⟩) (by assumption) ?r10
  case y10 => (intro w hSw; (try dsimp only at hSw); first | (go_simp; done) | (go_simp; with_reducible rfl))
  try simp only [Act.put, List.setIfInBounds_toArray, List.set_cons_zero, List.set_cons_succ]
  refine wpAnyH_take (i := 11) (v := ?v11) rfl (by kernel_rfl) (by kernel_rfl) (by kernel_rfl) (fun _ _ _ h => h) (Or.inl ⟨by kernel_rfl, ?y11⟩) (by assumption) ?r11
  case y11 => (intro w hSw; (try dsimp only at hSw); first | (go_simp; done) | (go_simp; with_reducible rfl))
  try simp only [Act.put, List.setIfInBounds_toArray, List.set_cons_zero, List.set_cons_succ]
  refine wpAnyH_take (i := 12) (v := ?v12) rfl (by kernel_rfl) (by kernel_rfl) (by kernel_rfl) (fun _ _ _ h => h) (Or.inl ⟨by kernel_rfl, ?y12⟩) (by assumption) ?r12
  case y12 => (intro w hSw; (try dsimp only at hSw); first | (go_simp; done) | (go_simp; with_reducible rfl))
  try simp only [Act.put, List.setIfInBounds_toArray, List.set_cons_zero, List.set_cons_succ]
  refine wpAnyH_take (i := 13) (v := ?v13) rfl (by kernel_rfl) (by kernel_rfl) (by kernel_rfl) (fun _ _ _ h => h) (Or.inl ⟨by kernel_rfl, ?y13⟩) (by assumption) ?r13
  case y13 => (intro w hSw; (try dsimp only at hSw); first | (go_simp; done) | (go_simp; with_reducible rfl))
  try simp only [Act.put, List.setIfInBounds_toArray, List.set_cons_zero, List.set_cons_succ]
  refine wpAnyH_take (i := 14) (v := ?v14) rfl (by kernel_rfl) (by kernel_rfl) (by kernel_rfl) (fun _ _ _ h => h) (Or.inl ⟨by kernel_rfl, ?y14⟩) (by assumption) ?r14
  case y14 => (intro w hSw; (try dsimp only at hSw); first | (go_simp; done) | (go_simp; with_reducible rfl))
  try simp only [Act.put, List.setIfInBounds_toArray, List.set_cons_zero, List.set_cons_succ]
  refine wpAnyH_take (i := 15) (v := ?v15) rfl (by kernel_rfl) (by kernel_rfl) (by kernel_rfl) (fun _ _ _ h => h) (Or.inl ⟨by kernel_rfl, ?y15⟩) (by assumption) ?r15
  case y15 => (intro w hSw; (try dsimp only at hSw); first | (go_simp; done) | (go_simp; with_reducible rfl))
  try simp only [Act.put, List.setIfInBounds_toArray, List.set_cons_zero, List.set_cons_succ]
  refine wpAnyH_take (i := 16) (v := ?v16) rfl (by kernel_rfl) (by kernel_rfl) (by kernel_rfl) (fun _ _ _ h => h) (Or.inl ⟨by kernel_rfl, ?y16⟩) (by assumption) ?r16
  case y16 => (intro w hSw; (try dsimp only at hSw); first | (go_simp; done) | (go_simp; with_reducible rfl))
  try simp only [Act.put, List.setIfInBounds_toArray, List.set_cons_zero, List.set_cons_succ]
  refine wpAnyH_take (i := 17) (v := ?v17) rfl (by kernel_rfl) (by kernel_rfl) (by kernel_rfl) (fun _ _ _ h => h) (Or.inl ⟨by kernel_rfl, ?y17⟩) (by assumption) ?r17
  case y17 => (intro w hSw; (try dsimp only at hSw); first | (go_simp; done) | (go_simp; with_reducible rfl))
  try simp only [Act.put, List.setIfInBounds_toArray, List.set_cons_zero, List.set_cons_succ]
  refine wpAnyH_take (i := 18) (v := ?v18) rfl (by kernel_rfl) (by kernel_rfl) (by kernel_rfl) (fun _ _ _ h => h) (Or.inl ⟨by kernel_rfl, ?y18⟩) (by assumption) ?r18
  case y18 => (intro w hSw; (try dsimp only at hSw); first | (go_simp; done) | (go_simp; with_reducible rfl))
  try simp only [Act.put, List.setIfInBounds_toArray, List.set_cons_zero, List.set_cons_succ]
  refine wpAnyH_take (i := 19) (v := ?v19) rfl (by kernel_rfl) (by kernel_rfl) (by kernel_rfl) (fun _ _ _ h => h) (Or.inl ⟨by kernel_rfl, ?y19⟩) (by assumption) ?r19
  case y19 => (intro w hSw; (try dsimp only at hSw); first | (go_simp; done) | (go_simp; with_reducible rfl))
  try simp only [Act.put, List.setIfInBounds_toArray, List.set_cons_zero, List.set_cons_succ]
  refine wpAnyH_take (i := 20) (v := ?v20) rfl (by kernel_rfl) (by kernel_rfl) (by kernel_rfl) (fun _ _ _ h => h) (Or.inl ⟨by kernel_rfl, ?y20⟩) (by assumption) ?r20
  case y20 => (intro w hSw; (try dsimp only at hSw); first | (go_simp; done) | (go_simp; with_reducible rfl))
  try simp only [Act.put, List.setIfInBounds_toArray, List.set_cons_zero, List.set_cons_succ]
  refine wpAnyH_take (i := 21) (v := ?v21) rfl (by kernel_rfl) (by kernel_rfl) (by kernel_rfl) (fun _ _ _ h => h) (Or.inl ⟨by kernel_rfl, ?y21⟩) (by assumption) ?r21
  case y21 => (intro w hSw; (try dsimp only at hSw); first | (go_simp; done) | (go_simp; with_reducible rfl))
  try simp only [Act.put, List.setIfInBounds_toArray, List.set_cons_zero, List.set_cons_succ]
  refine wpAnyH_take (i := 22) (v := ?v22) rfl (by kernel_rfl) (by kernel_rfl) (by kernel_rfl) (fun _ _ _ h => h) (Or.inl ⟨by kernel_rfl, ?y22⟩) (by assumption) ?r22
  case y22 => (intro w hSw; (try dsimp only at hSw); first | (go_simp; done) | (go_simp; with_reducible rfl))
  try simp only [Act.put, List.setIfInBounds_toArray, List.set_cons_zero, List.set_cons_succ]
  refine wpAnyH_ready (rs := [23]) (by kernel_rfl) (by simp) ?_
  refine AllReadyH.cons rfl (fun K hK => ?_) AllReadyH.nil
  go_simp
  refine (rdPut (i := j) hp hi1 hO).mono ?_
  rintro e w5 ⟨ka, rfl, hN⟩
  have hN := hN.p2
  clear hO
  clear c0 c1 c2 c3 c4 c5 c6 c7 c8 c9 c10 c11 c12 c13 c14 c15 c16 c17 c18 c19 c20 c21 cf x0
  obtain ⟨c0, c1, c2, c3, c4, c5, c6, c7, c8, c9, c10, c11, c12, c13, c14, c15, c16, c17, c18, c19, c20, c21, cf⟩ := rdCells hN
  have x0 := rdR_pc hp hN.p2 j hi1
  refine hK.out _ _ ?_ (fun hHeld => ?_)
  · exact ⟨c0, c1, c2, c3, c4, c5, c6, c7, c9, c10, c11, c13, x0⟩
  clear hK K
  try simp only [Act.put, List.setIfInBounds_toArray, List.set_cons_zero, List.set_cons_succ]
  refine wpAnyH_take (i := 24) (v := ?v24) rfl (by kernel_rfl) (by kernel_rfl) (by kernel_rfl) (fun _ _ _ h => h) (Or.inl ⟨by kernel_rfl, ?y24⟩) (by assumption) ?r24
  case y24 => (intro w hSw; (try dsimp only at hSw); first | (go_simp; done) | (go_simp; with_reducible rfl))
  try simp only [Act.put, List.setIfInBounds_toArray, List.set_cons_zero, List.set_cons_succ]
  refine wpAnyH_take (i := 25) (v := ?v25) rfl (by kernel_rfl) (by kernel_rfl) (by kernel_rfl) (fun _ _ _ h => h) (Or.inl ⟨by kernel_rfl, ?y25⟩) (by assumption) ?r25
  case y25 => (intro w hSw; (try dsimp only at hSw); first | (go_simp; done) | (go_simp; with_reducible rfl))
  try simp only [Act.put, List.setIfInBounds_toArray, List.set_cons_zero, List.set_cons_succ]
  refine wpAnyH_ready (rs := [26]) (by kernel_rfl) (by simp) ?_
  refine AllReadyH.cons rfl (fun K hK => ?_) AllReadyH.nil
  go_simp
  have hF := hN.set 16 (.pointer (some ⟨ka, 0, none⟩))
  clear c0 c1 c2 c3 c4 c5 c6 c7 c8 c9 c10 c11 c12 c13 c14 c15 c16 c17 c18 c19 c20 c21 cf x0
  obtain ⟨c0, c1, c2, c3, c4, c5, c6, c7, c8, c9, c10, c11, c12, c13, c14, c15, c16, c17, c18, c19, c20, c21, cf⟩ := rdCells (vP := vP) (vA := some ⟨ka, 0, none⟩) (c := p.c) (vp := .slice a1 p.c.ps.length z1) (vl := .slice a2 p.c.ls.length z2) hF
  have x0 := rdR_pc hp hF.p2 j hi1
  refine hK.out _ _ ?_ (fun hHeld => ?_)
  · exact ⟨c0, c1, c2, c3, c4, c5, c6, c7, c9, c10, c11, c13, x0⟩
  clear hK K
  try simp only [Act.put, List.setIfInBounds_toArray, List.set_cons_zero, List.set_cons_succ]
  refine wpAnyH_done (by kernel_rfl) ?_ _
  go_wp2_with fail
  refine bodyPost_ret (results_none rfl _ _ _) rfl ?_
  exact ⟨rfl, ka, hF⟩
set_option maxHeartbeats 4000000 in
theorem rdAdded_last {ka : Nat} {K : Asn} (hp : p.Ok) (hi : i < p.len) {s : CS} (hK : K = rcX kc p s) (hs : CSOk p.cp s) (hlv : I64 lv) (hl2 : i + 1 = p.len) (h : Own w0 F0 (blk k (rdO p.c vp vl p.v p.n p.t vq 5 i vP (some ⟨ka, 0, none⟩) lv 0 0 0 kc) :: rdR vp vl vq p :: K :: L) w) :
    Calls Tryz.prog 87 #[.pointer (some ⟨k, 0, none⟩)] w fun e w' => e = .returned (.tuple #[]) ∧ Own w0 F0 (blk k (rdO p.c vp vl p.v p.n p.t vq 6 (i + 1 : Nat) vP (some ⟨ka, 0, none⟩) lv 0 (hdV s.n lv) 0 kc) :: rdR vp vl vq p :: K :: L) w' := by
  obtain ⟨b, off, cap, rfl, -⟩ := rdR_q hp h.swap
  have hl := DP.len_bd hp
  have hw1 : IntKind.i64.wrap ((i : Int) + 1) = (i : Int) + 1 := IntWalk.i64_in _ (by omega)
  obtain ⟨j, hj⟩ : ∃ j, j = i + 1 := ⟨_, rfl⟩
  rw [← hj] at hl2 ⊢
  have E1 := Lib.hid (show ((i : Int) + 1) = ((j : Nat) : Int) by omega)
  subst hK
  have hd : decide (((i : Int) + 1) < (p.len : Int)) = false := by simp; omega
  have hd2 : ¬ ((i : Int) + 1) < (p.len : Int) := by omega
  have hn : 0 ≤ (s.n : Int) ∧ (s.n : Int) ≤ 15 := by
    cases ho : s.ok with
    | true =>
      have h1 := (hs.good ho).2.1
      have h2 := (ti_nat hp.rt).2.2
      have h3 : p.cp.ti = p.c.ti.toNat := rfl
      omega
    | false => have := (hs.bad ho).1; omega
  have HH := fun w => rHandle_any (s.n : Int) lv (by unfold W64; omega) hlv w
  clear hs hlv
  generalize hdV (s.n : Int) lv = HV at *
  generalize hdB (s.n : Int) = HBv at *
  clear hj
  obtain ⟨c0, c1, c2, c3, c4, c5, c6, c7, c8, c9, c10, c11, c12, c13, c14, c15, c16, c17, c18, c19, c20, c21, cf⟩ := rdCells h
  have H1 := Lib.hid (h.set 13 (.int .i64 ((i : Int) + 1)))
  have Hp := Lib.hid hp
  have Hi2 := Lib.hid hl2
  clear h hp hl hl2
  go_enter Tryz.func87, Tryz.ntmps87
  go_wp2_with fail
  have h3 : Own w0 F0 (blk k (rdO p.c vp vl p.v p.n p.t (.slice (some ⟨b, off, none⟩) p.len cap) 5 ((i : Int) + 1) vP (some ⟨ka, 0, none⟩) lv 0 0 0 kc) :: rdR vp vl (.slice (some ⟨b, off, none⟩) p.len cap) p :: _ :: L) _ := H1.out
  generalize World.setCell _ _ _ = w3 at h3 ⊢
  clear H1 c0 c1 c2 c3 c4 c5 c6 c7 c8 c9 c10 c11 c12 c13 c14 c15 c16 c17 c18 c19 c20 c21 cf
  obtain ⟨c0, c1, c2, c3, c4, c5, c6, c7, c8, c9, c10, c11, c12, c13, c14, c15, c16, c17, c18, c19, c20, c21, cf⟩ := rdCells h3
  have HQ := Lib.hid (fun q => h3.drewN q)
  clear h3
  go_quiet (fail)
  have h4 := HQ.out nq
  clear HQ c0 c1 c2 c3 c4 c5 c6 c7 c8 c9 c10 c11 c12 c13 c14 c15 c16 c17 c18 c19 c20 c21 cf
  generalize World.drewN w3 nq = w4 at *
  rw [E1.out] at h4
  obtain ⟨c0, c1, c2, c3, c4, c5, c6, c7, c8, c9, c10, c11, c12, c13, c14, c15, c16, c17, c18, c19, c20, c21, cf⟩ := rdCells h4
  have i2 : decide (((j : Nat) : Int) < (p.len : Int)) = false := by simp; have := Hi2.out; omega
  have HRG := Lib.hid (fun (d : Nat) (os : Array Obj) => h4.below (below_regrown w4 d os))
  have C1 := fun d os => Calls.regrown_of (rcX_ans (HRG.out d os).p2)
  have C2 := fun d os => Calls.regrown_of (HH (Go.Sort.grow (redrawn w4 d) os))
  have qe := fun w => fld12N (erC s) (s.n : Int) false 0 w
  generalize (s.n : Int) = SN at *
  generalize erC s = EC at *
  clear h4 hd hd2 E1 hw1 Hi2 HH hn
  go_wp2_with fail
  have k14 := cell_regrown c14
  have k17 := cell_regrown c17
  clear c0 c1 c2 c3 c4 c5 c6 c7 c8 c9 c10 c11 c12 c13 c14 c15 c16 c17 c18 c19 c20 c21 cf
  try dsimp only [List.append]
  refine wp_region_quiet_below (by kernel_rfl) (by kernel_rfl) ?_
  repeat (go_big_quiet_step (first | (go_at_call 74; with_reducible exact C1 _ _) | (go_at_call 123; with_reducible exact C2 _ _)))
  refine wpQuiet_nil ?_
  intro _ hw'
  obtain ⟨⟨dq, osq⟩, hw''⟩ := hw'
  subst hw''
  have h5 := HRG.out dq osq
  clear HRG C1 C2 k14 k17
  generalize Go.Sort.grow (redrawn w4 dq) osq = w5 at *
  obtain ⟨c0, c1, c2, c3, c4, c5, c6, c7, c8, c9, c10, c11, c12, c13, c14, c15, c16, c17, c18, c19, c20, c21, cf⟩ := rdCells h5
  have H6 := Lib.hid (((((h5.set 18 (.int .i64 0)).set 19 (.int .i64 HV)).set 20 (.bool false)).set 21 (.int .i64 0)).set 12 (.int .i64 6))
  clear h5
  go_wp2_with fail
  go_end0
  exact ⟨rfl, H6.out⟩
theorem cs_n {s : CS} (hp : p.Ok) (hs : CSOk p.cp s) : s.n < p.c.ti.toNat := by
  cases ho : s.ok with
  | true => exact (hs.good ho).2.1
  | false => rw [(hs.bad ho).1]; exact (ti_nat hp.rt).2.1
theorem rd_tk {a1 a2 : Option Addr} {z1 z2 : Nat} (hp : p.Ok) (n : Nat) (hn : n < p.c.ti.toNat) (w : World) :
    Calls Tryz.prog 39 #[cfV p.c (.slice a1 p.c.ps.length z1) (.slice a2 p.c.ls.length z2), .int .i64 n] w fun e w' => e = .returned (.int .i64 (tkN p.c n)) ∧ Below w.heap.size w w' := by
  have h := rTicket_q (pp := a1) (np := p.c.ps.length) (cp := z1) (pl := a2) (nl := p.c.ls.length) (cl := z2) p.c hp.rt.sm hp.rt.n1 (n : Int) (by omega) (by have := (ti_nat hp.rt).2.2; omega) w
  rw [limN_eq hp.rt.sm] at h
  rw [show ((tkN p.c n : Nat) : Int) = (limN p.c p.c.ps.length : Int) + 2 * (n : Int) from by unfold tkN; omega]
  exact h
set_option maxHeartbeats 2000000 in
theorem rdStep6 {s : CS} {at_ : Int}  (hp : p.Ok) (hs : CSOk p.cp s) (h : Own w0 F0 (blk k (rdO p.c vp vl p.v p.n p.t vq 6 at_  vP vA lv er an nn kc) :: rdR vp vl vq p :: rcX kc p s :: L) w) :
    Calls Tryz.prog 36 #[.pointer (some ⟨k, 0, none⟩), .pointer (some ⟨m, 0, none⟩)] w fun e w' => e = .returned (.bool true) ∧ Own w0 F0 (blk k (rdO p.c vp vl p.v p.n p.t vq 6 at_  vP vA lv er an nn kc) :: rdR vp vl vq p :: rcX kc p s :: L) w' := by
  obtain ⟨a1, z1, a2, z2, rfl, rfl⟩ := rdR_sl h.swap
  have hn := cs_n hp hs
  have HT := fun w => Lib.hid (rd_tk (a1 := a1) (a2 := a2) (z1 := z1) (z2 := z2) hp s.n hn w)
  have HRG := Lib.hid (fun (d : Nat) (os : Array Obj) => h.below (below_regrown w d os))
  have C1 := fun d os => Calls.regrown_of (rcX_ans (HRG.out d os).p2)
  have C2 := fun d os => Calls.regrown_of (HT (Go.Sort.grow (redrawn w d) os)).out
  have qe := fun w => fld12N (erC s) (s.n : Int) false 0 w
  obtain ⟨c0, c1, c2, c3, c4, c5, c6, c7, c8, c9, c10, c11, c12, c13, c14, c15, c16, c17, c18, c19, c20, c21, cf⟩ := rdCells h
  obtain ⟨TK, hTK⟩ : ∃ TK, TK = tkN p.c s.n := ⟨_, rfl⟩
  rw [← hTK] at C2
  try rw [← hTK]
  have HTK := Lib.hid hTK
  have HS := Lib.hid hs
  have HPP := Lib.hid hp
  clear h HT hn hTK hs hp
  generalize hSN : (s.n : Int) = SN at C1 C2 qe
  generalize hEC : erC s = EC at C1 qe
  clear hSN hEC
  go_enter Tryz.func36, Tryz.ntmps36
  go_wp2_with fail
  have k0 := cell_regrown c0
  have k1 := cell_regrown c1
  have k2 := cell_regrown c2
  have k3 := cell_regrown c3
  have k4 := cell_regrown c4
  have k5 := cell_regrown c5
  have k6 := cell_regrown c6
  have k7 := cell_regrown c7
  have k14 := cell_regrown c14
  clear c0 c1 c2 c3 c4 c5 c6 c7 c8 c9 c10 c11 c12 c13 c14 c15 c16 c17 c18 c19 c20 c21 cf
  try dsimp only [List.append]
  refine wp_region_quiet_below (by kernel_rfl) (by kernel_rfl) ?_
  repeat (go_big_quiet_step (first | (go_at_call 74; with_reducible exact C1 _ _) | (go_at_call 39; with_reducible exact C2 _ _)))
  refine wpQuiet_nil ?_
  intro _ hw'
  obtain ⟨⟨dq, osq⟩, hw''⟩ := hw'
  subst hw''
  have h2 := HRG.out dq osq
  clear HRG C1 C2 qe k0 k1 k2 k3 k4 k5 k6 k7 k14
  generalize Go.Sort.grow (redrawn w dq) osq = w2 at *
  obtain ⟨c0, c1, c2, c3, c4, c5, c6, c7, c8, c9, c10, c11, c12, c13, c14, c15, c16, c17, c18, c19, c20, c21, cf⟩ := rdCells h2
  have H2 := Lib.hid h2
  clear h2
  go_wp2_with fail
  go_ret
  exact ⟨rfl, H2.out⟩
set_option maxHeartbeats 2000000 in
theorem rdStep0_more {s : CS} (hcw : CW p.cp ws) (hlg : lg.length < 1000000) (hfin : (stepC p.cp s ws lg).1.fin = false) (hp : p.Ok) (hs : CSOk p.cp s) (h : Own w0 F0 (blk k (rdO p.c vp vl p.v p.n p.t vq 0 0 vP vA lv 0 0 0 kc) :: rdR vp vl vq p :: rcX kc p s :: memA T m ws lg :: L) w) :
    Calls Tryz.prog 36 #[.pointer (some ⟨k, 0, none⟩), .pointer (some ⟨m, 0, none⟩)] w fun e w' => e = .returned (.bool false) ∧ Own w0 F0 (blk k (rdO p.c vp vl p.v p.n p.t vq 0 0 vP vA lv 0 0 0 kc) :: rdR vp vl vq p :: rcX kc p (stepC p.cp s ws lg).1 :: memA T m (stepC p.cp s ws lg).2.1 (stepC p.cp s ws lg).2.2.1 :: L) w' := by
  obtain ⟨a1, z1, a2, z2, rfl, rfl⟩ := rdR_sl h.swap
  have HSt := fun L w (h : Own w0 F0 (rcX kc p s :: memA T m ws lg :: L) w) => Lib.hid (rcX_step hp hcw hs hlg h)
  have HsA := Lib.hid (CSOk.step (lg := lg) (DP.cp_ok hp) hcw hs)
  clear hcw hlg
  generalize stepC p.cp s ws lg = A at *
  have hn := cs_n hp hs
  have HT := fun w => Lib.hid (rd_tk (a1 := a1) (a2 := a2) (z1 := z1) (z2 := z2) hp s.n hn w)
  have HRG := Lib.hid (fun (d : Nat) (os : Array Obj) => h.below (below_regrown w d os))
  have C1 := fun d os => Calls.regrown_of (rcX_ans (HRG.out d os).p2)
  have C2 := fun d os => Calls.regrown_of (HT (Go.Sort.grow (redrawn w d) os)).out
  have qe := fun w => fld12N (erC s) (s.n : Int) false 0 w
  obtain ⟨c0, c1, c2, c3, c4, c5, c6, c7, c8, c9, c10, c11, c12, c13, c14, c15, c16, c17, c18, c19, c20, c21, cf⟩ := rdCells h
  obtain ⟨TK, hTK⟩ : ∃ TK, TK = tkN p.c s.n := ⟨_, rfl⟩
  rw [← hTK] at C2
  try rw [← hTK]
  have HTK := Lib.hid hTK
  have HS := Lib.hid hs
  have HPP := Lib.hid hp
  clear h HT hn hTK hs hp
  generalize hSN : (s.n : Int) = SN at C1 C2 qe
  generalize hEC : erC s = EC at C1 qe
  clear hSN hEC
  go_enter Tryz.func36, Tryz.ntmps36
  go_wp2_with fail
  have k0 := cell_regrown c0
  have k1 := cell_regrown c1
  have k2 := cell_regrown c2
  have k3 := cell_regrown c3
  have k4 := cell_regrown c4
  have k5 := cell_regrown c5
  have k6 := cell_regrown c6
  have k7 := cell_regrown c7
  have k14 := cell_regrown c14
  clear c0 c1 c2 c3 c4 c5 c6 c7 c8 c9 c10 c11 c12 c13 c14 c15 c16 c17 c18 c19 c20 c21 cf
  try dsimp only [List.append]
  refine wp_region_quiet_below (by kernel_rfl) (by kernel_rfl) ?_
  repeat (go_big_quiet_step (first | (go_at_call 74; with_reducible exact C1 _ _) | (go_at_call 39; with_reducible exact C2 _ _)))
  refine wpQuiet_nil ?_
  intro _ hw'
  obtain ⟨⟨dq, osq⟩, hw''⟩ := hw'
  subst hw''
  have h2 := HRG.out dq osq
  clear HRG C1 C2 qe k0 k1 k2 k3 k4 k5 k6 k7 k14
  generalize Go.Sort.grow (redrawn w dq) osq = w2 at *
  obtain ⟨c0, c1, c2, c3, c4, c5, c6, c7, c8, c9, c10, c11, c12, c13, c14, c15, c16, c17, c18, c19, c20, c21, cf⟩ := rdCells h2
  have H2 := Lib.hid h2
  clear h2
  have h2 := H2.out
  have hx : Own w0 F0 (rcX kc p s :: memA T m ws lg :: blk k (rdO p.c (.slice a1 p.c.ps.length z1) (.slice a2 p.c.ls.length z2) p.v p.n p.t vq 0 0 vP vA lv 0 0 0 kc) :: rdR (.slice a1 p.c.ps.length z1) (.slice a2 p.c.ls.length z2) vq p :: L) w2 := (h2.p3.p3)
  clear h2
  go_wp2_with fail
  refine (HSt _ _ hx).out.mono ?_
  rintro e w3 ⟨rfl, hO⟩
  have h3 : Own w0 F0 (blk k (rdO p.c (.slice a1 p.c.ps.length z1) (.slice a2 p.c.ls.length z2) p.v p.n p.t vq 0 0 vP vA lv 0 0 0 kc) :: rdR (.slice a1 p.c.ps.length z1) (.slice a2 p.c.ls.length z2) vq p :: rcX kc p A.1 :: memA T m A.2.1 A.2.2.1 :: L) w3 := (hO.p2).under fun _ _ h => (h.p2)
  clear hO hx H2 HSt c0 c1 c2 c3 c4 c5 c6 c7 c8 c9 c10 c11 c12 c13 c14 c15 c16 c17 c18 c19 c20 c21 cf
  rw [hfin]
  obtain ⟨c0, c1, c2, c3, c4, c5, c6, c7, c8, c9, c10, c11, c12, c13, c14, c15, c16, c17, c18, c19, c20, c21, cf⟩ := rdCells h3
  have H3 := Lib.hid h3
  clear h3
  go_wp2_with fail
  go_ret
  exact ⟨rfl, H3.out⟩
set_option maxHeartbeats 2000000 in
theorem rdStep0_full {s : CS} (hcw : CW p.cp ws) (hlg : lg.length < 1000000) (hfin : (stepC p.cp s ws lg).1.fin = true) (hok : (stepC p.cp s ws lg).1.ok = false) (hp : p.Ok) (hs : CSOk p.cp s) (h : Own w0 F0 (blk k (rdO p.c vp vl p.v p.n p.t vq 0 0 vP vA lv 0 0 0 kc) :: rdR vp vl vq p :: rcX kc p s :: memA T m ws lg :: L) w) :
    Calls Tryz.prog 36 #[.pointer (some ⟨k, 0, none⟩), .pointer (some ⟨m, 0, none⟩)] w fun e w' => e = .returned (.bool true) ∧ Own w0 F0 (blk k (rdO p.c vp vl p.v p.n p.t vq 6 0 vP vA lv 3 0 0 kc) :: rdR vp vl vq p :: rcX kc p (stepC p.cp s ws lg).1 :: memA T m (stepC p.cp s ws lg).2.1 (stepC p.cp s ws lg).2.2.1 :: L) w' := by
  obtain ⟨a1, z1, a2, z2, rfl, rfl⟩ := rdR_sl h.swap
  have HSt := fun L w (h : Own w0 F0 (rcX kc p s :: memA T m ws lg :: L) w) => Lib.hid (rcX_step hp hcw hs hlg h)
  have HsA := Lib.hid (CSOk.step (lg := lg) (DP.cp_ok hp) hcw hs)
  clear hcw hlg
  generalize stepC p.cp s ws lg = A at *
  have hn := cs_n hp hs
  have HT := fun w => Lib.hid (rd_tk (a1 := a1) (a2 := a2) (z1 := z1) (z2 := z2) hp s.n hn w)
  have HRG := Lib.hid (fun (d : Nat) (os : Array Obj) => h.below (below_regrown w d os))
  have C1 := fun d os => Calls.regrown_of (rcX_ans (HRG.out d os).p2)
  have C2 := fun d os => Calls.regrown_of (HT (Go.Sort.grow (redrawn w d) os)).out
  have qe := fun w => fld12N (erC s) (s.n : Int) false 0 w
  obtain ⟨c0, c1, c2, c3, c4, c5, c6, c7, c8, c9, c10, c11, c12, c13, c14, c15, c16, c17, c18, c19, c20, c21, cf⟩ := rdCells h
  obtain ⟨TK, hTK⟩ : ∃ TK, TK = tkN p.c s.n := ⟨_, rfl⟩
  rw [← hTK] at C2
  try rw [← hTK]
  have HTK := Lib.hid hTK
  have HS := Lib.hid hs
  have HPP := Lib.hid hp
  clear h HT hn hTK hs hp
  generalize hSN : (s.n : Int) = SN at C1 C2 qe
  generalize hEC : erC s = EC at C1 qe
  clear hSN hEC
  go_enter Tryz.func36, Tryz.ntmps36
  go_wp2_with fail
  have k0 := cell_regrown c0
  have k1 := cell_regrown c1
  have k2 := cell_regrown c2
  have k3 := cell_regrown c3
  have k4 := cell_regrown c4
  have k5 := cell_regrown c5
  have k6 := cell_regrown c6
  have k7 := cell_regrown c7
  have k14 := cell_regrown c14
  clear c0 c1 c2 c3 c4 c5 c6 c7 c8 c9 c10 c11 c12 c13 c14 c15 c16 c17 c18 c19 c20 c21 cf
  try dsimp only [List.append]
  refine wp_region_quiet_below (by kernel_rfl) (by kernel_rfl) ?_
  repeat (go_big_quiet_step (first | (go_at_call 74; with_reducible exact C1 _ _) | (go_at_call 39; with_reducible exact C2 _ _)))
  refine wpQuiet_nil ?_
  intro _ hw'
  obtain ⟨⟨dq, osq⟩, hw''⟩ := hw'
  subst hw''
  have h2 := HRG.out dq osq
  clear HRG C1 C2 qe k0 k1 k2 k3 k4 k5 k6 k7 k14
  generalize Go.Sort.grow (redrawn w dq) osq = w2 at *
  obtain ⟨c0, c1, c2, c3, c4, c5, c6, c7, c8, c9, c10, c11, c12, c13, c14, c15, c16, c17, c18, c19, c20, c21, cf⟩ := rdCells h2
  have H2 := Lib.hid h2
  clear h2
  have h2 := H2.out
  have hx : Own w0 F0 (rcX kc p s :: memA T m ws lg :: blk k (rdO p.c (.slice a1 p.c.ps.length z1) (.slice a2 p.c.ls.length z2) p.v p.n p.t vq 0 0 vP vA lv 0 0 0 kc) :: rdR (.slice a1 p.c.ps.length z1) (.slice a2 p.c.ls.length z2) vq p :: L) w2 := (h2.p3.p3)
  clear h2
  go_wp2_with fail
  refine (HSt _ _ hx).out.mono ?_
  rintro e w3 ⟨rfl, hO⟩
  have h3 : Own w0 F0 (blk k (rdO p.c (.slice a1 p.c.ps.length z1) (.slice a2 p.c.ls.length z2) p.v p.n p.t vq 0 0 vP vA lv 0 0 0 kc) :: rdR (.slice a1 p.c.ps.length z1) (.slice a2 p.c.ls.length z2) vq p :: rcX kc p A.1 :: memA T m A.2.1 A.2.2.1 :: L) w3 := (hO.p2).under fun _ _ h => (h.p2)
  clear hO hx H2 HSt c0 c1 c2 c3 c4 c5 c6 c7 c8 c9 c10 c11 c12 c13 c14 c15 c16 c17 c18 c19 c20 c21 cf
  rw [hfin]
  have he3 : erC A.1 = 3 := by unfold erC; rw [if_pos ⟨hfin, hok⟩]
  have hn0 := (HsA.out.bad hok).1
  have h3 : Own w0 F0 (blk k (rdO p.c (.slice a1 p.c.ps.length z1) (.slice a2 p.c.ls.length z2) p.v p.n p.t vq 0 0 vP vA lv 0 0 0 kc) :: rcX kc p A.1 :: rdR (.slice a1 p.c.ps.length z1) (.slice a2 p.c.ls.length z2) vq p :: memA T m A.2.1 A.2.2.1 :: L) w3 := h3.under fun _ _ h => h.swap
  clear hfin hok HsA
  have H3 := Lib.hid h3
  clear h3
  go_wp2_with fail
  refine (rdClaimed_full he3 hn0 H3.out).mono ?_
  rintro e w4 ⟨rfl, h4⟩
  clear he3 hn0
  have h4 := h4.under fun _ _ h => h.swap
  obtain ⟨c0, c1, c2, c3, c4, c5, c6, c7, c8, c9, c10, c11, c12, c13, c14, c15, c16, c17, c18, c19, c20, c21, cf⟩ := rdCells h4
  have H4 := Lib.hid h4
  clear h4 H3
  go_wp2_with fail
  go_ret
  exact ⟨rfl, H4.out⟩
set_option maxHeartbeats 2000000 in
theorem rdStep0_ok {s : CS} (hcw : CW p.cp ws) (hlg : lg.length < 1000000) (hfin : (stepC p.cp s ws lg).1.fin = true) (hok : (stepC p.cp s ws lg).1.ok = true) (hp : p.Ok) (hs : CSOk p.cp s) (h : Own w0 F0 (blk k (rdO p.c vp vl p.v p.n p.t vq 0 0 vP vA lv 0 0 0 kc) :: rdR vp vl vq p :: rcX kc p s :: memA T m ws lg :: L) w) :
    Calls Tryz.prog 36 #[.pointer (some ⟨k, 0, none⟩), .pointer (some ⟨m, 0, none⟩)] w fun e w' => e = .returned (.bool false) ∧ ∃ kp, Own w0 F0 (blk k (rdO p.c vp vl p.v p.n p.t vq 1 0 (some ⟨kp, 0, none⟩) vA lv 0 0 0 kc) :: rdR vp vl vq p :: rcX kc p (stepC p.cp s ws lg).1 :: rpX kp p 0 s0P :: memA T m (stepC p.cp s ws lg).2.1 (stepC p.cp s ws lg).2.2.1 :: L) w' := by
  obtain ⟨a1, z1, a2, z2, rfl, rfl⟩ := rdR_sl h.swap
  have HSt := fun L w (h : Own w0 F0 (rcX kc p s :: memA T m ws lg :: L) w) => Lib.hid (rcX_step hp hcw hs hlg h)
  have HsA := Lib.hid (CSOk.step (lg := lg) (DP.cp_ok hp) hcw hs)
  clear hcw hlg
  generalize stepC p.cp s ws lg = A at *
  have hn := cs_n hp hs
  have HT := fun w => Lib.hid (rd_tk (a1 := a1) (a2 := a2) (z1 := z1) (z2 := z2) hp s.n hn w)
  have HRG := Lib.hid (fun (d : Nat) (os : Array Obj) => h.below (below_regrown w d os))
  have C1 := fun d os => Calls.regrown_of (rcX_ans (HRG.out d os).p2)
  have C2 := fun d os => Calls.regrown_of (HT (Go.Sort.grow (redrawn w d) os)).out
  have qe := fun w => fld12N (erC s) (s.n : Int) false 0 w
  obtain ⟨c0, c1, c2, c3, c4, c5, c6, c7, c8, c9, c10, c11, c12, c13, c14, c15, c16, c17, c18, c19, c20, c21, cf⟩ := rdCells h
  obtain ⟨TK, hTK⟩ : ∃ TK, TK = tkN p.c s.n := ⟨_, rfl⟩
  rw [← hTK] at C2
  try rw [← hTK]
  have HTK := Lib.hid hTK
  have HS := Lib.hid hs
  have HPP := Lib.hid hp
  clear h HT hn hTK hs hp
  generalize hSN : (s.n : Int) = SN at C1 C2 qe
  generalize hEC : erC s = EC at C1 qe
  clear hSN hEC
  go_enter Tryz.func36, Tryz.ntmps36
  go_wp2_with fail
  have k0 := cell_regrown c0
  have k1 := cell_regrown c1
  have k2 := cell_regrown c2
  have k3 := cell_regrown c3
  have k4 := cell_regrown c4
  have k5 := cell_regrown c5
  have k6 := cell_regrown c6
  have k7 := cell_regrown c7
  have k14 := cell_regrown c14
  clear c0 c1 c2 c3 c4 c5 c6 c7 c8 c9 c10 c11 c12 c13 c14 c15 c16 c17 c18 c19 c20 c21 cf
  try dsimp only [List.append]
  refine wp_region_quiet_below (by kernel_rfl) (by kernel_rfl) ?_
  repeat (go_big_quiet_step (first | (go_at_call 74; with_reducible exact C1 _ _) | (go_at_call 39; with_reducible exact C2 _ _)))
  refine wpQuiet_nil ?_
  intro _ hw'
  obtain ⟨⟨dq, osq⟩, hw''⟩ := hw'
  subst hw''
  have h2 := HRG.out dq osq
  clear HRG C1 C2 qe k0 k1 k2 k3 k4 k5 k6 k7 k14
  generalize Go.Sort.grow (redrawn w dq) osq = w2 at *
  obtain ⟨c0, c1, c2, c3, c4, c5, c6, c7, c8, c9, c10, c11, c12, c13, c14, c15, c16, c17, c18, c19, c20, c21, cf⟩ := rdCells h2
  have H2 := Lib.hid h2
  clear h2
  have h2 := H2.out
  have hx : Own w0 F0 (rcX kc p s :: memA T m ws lg :: blk k (rdO p.c (.slice a1 p.c.ps.length z1) (.slice a2 p.c.ls.length z2) p.v p.n p.t vq 0 0 vP vA lv 0 0 0 kc) :: rdR (.slice a1 p.c.ps.length z1) (.slice a2 p.c.ls.length z2) vq p :: L) w2 := (h2.p3.p3)
  clear h2
  go_wp2_with fail
  refine (HSt _ _ hx).out.mono ?_
  rintro e w3 ⟨rfl, hO⟩
  have h3 : Own w0 F0 (blk k (rdO p.c (.slice a1 p.c.ps.length z1) (.slice a2 p.c.ls.length z2) p.v p.n p.t vq 0 0 vP vA lv 0 0 0 kc) :: rdR (.slice a1 p.c.ps.length z1) (.slice a2 p.c.ls.length z2) vq p :: rcX kc p A.1 :: memA T m A.2.1 A.2.2.1 :: L) w3 := (hO.p2).under fun _ _ h => (h.p2)
  clear hO hx H2 HSt c0 c1 c2 c3 c4 c5 c6 c7 c8 c9 c10 c11 c12 c13 c14 c15 c16 c17 c18 c19 c20 c21 cf
  rw [hfin]
  have he3 : erC A.1 = 0 := by unfold erC; rw [if_neg (by rw [hok]; simp)]
  clear hfin hok HsA
  have H3 := Lib.hid h3
  clear h3
  go_wp2_with fail
  refine (rdClaimed_ok HPP.out he3 H3.out).mono ?_
  rintro e w4 ⟨rfl, kp, h4⟩
  clear he3
  have h4 := h4.under fun _ _ h => h.swap.under fun _ _ h => h.swap
  obtain ⟨c0, c1, c2, c3, c4, c5, c6, c7, c8, c9, c10, c11, c12, c13, c14, c15, c16, c17, c18, c19, c20, c21, cf⟩ := rdCells h4
  have H4 := Lib.hid h4
  clear h4 H3
  go_wp2_with fail
  go_ret
  exact ⟨rfl, kp, H4.out⟩
set_option maxHeartbeats 2000000 in
theorem rdStep1_on {s : CS} {kp i : Nat} {B : Int} {u : PS} (hi : i < p.len) (hB : B ≤ 1000000000000000000) (hpw : PW (p.pp i) B ws) (hu : PSOk (p.pp i) B u) (hlg : lg.length < 1000000) (hfl : (stepP (p.pp i) u ws lg).2.2.2 = false) (hp : p.Ok) (hs : CSOk p.cp s) (h : Own w0 F0 (blk k (rdO p.c vp vl p.v p.n p.t vq 1 i (some ⟨kp, 0, none⟩) vA lv 0 0 0 kc) :: rdR vp vl vq p :: rcX kc p s :: rpX kp p i u :: memA T m ws lg :: L) w) :
    Calls Tryz.prog 36 #[.pointer (some ⟨k, 0, none⟩), .pointer (some ⟨m, 0, none⟩)] w fun e w' => e = .returned (.bool false) ∧ Own w0 F0 (blk k (rdO p.c vp vl p.v p.n p.t vq 1 i (some ⟨kp, 0, none⟩) vA lv 0 0 0 kc) :: rdR vp vl vq p :: rcX kc p s :: rpX kp p i (stepP (p.pp i) u ws lg).1 :: memA T m (stepP (p.pp i) u ws lg).2.1 (stepP (p.pp i) u ws lg).2.2.1 :: L) w' := by
  obtain ⟨a1, z1, a2, z2, rfl, rfl⟩ := rdR_sl h.swap
  have HSt := fun L w (h : Own w0 F0 (rpX kp p i u :: memA T m ws lg :: L) w) => Lib.hid (rpX_step hp hi hB hpw hu hlg h)
  clear hpw hlg hu hB
  generalize stepP (p.pp i) u ws lg = A at *
  have hn := cs_n hp hs
  have HT := fun w => Lib.hid (rd_tk (a1 := a1) (a2 := a2) (z1 := z1) (z2 := z2) hp s.n hn w)
  have HRG := Lib.hid (fun (d : Nat) (os : Array Obj) => h.below (below_regrown w d os))
  have C1 := fun d os => Calls.regrown_of (rcX_ans (HRG.out d os).p2)
  have C2 := fun d os => Calls.regrown_of (HT (Go.Sort.grow (redrawn w d) os)).out
  have qe := fun w => fld12N (erC s) (s.n : Int) false 0 w
  obtain ⟨c0, c1, c2, c3, c4, c5, c6, c7, c8, c9, c10, c11, c12, c13, c14, c15, c16, c17, c18, c19, c20, c21, cf⟩ := rdCells h
  obtain ⟨TK, hTK⟩ : ∃ TK, TK = tkN p.c s.n := ⟨_, rfl⟩
  rw [← hTK] at C2
  try rw [← hTK]
  have HTK := Lib.hid hTK
  have HS := Lib.hid hs
  have HPP := Lib.hid hp
  clear h HT hn hTK hs hp
  generalize hSN : (s.n : Int) = SN at C1 C2 qe
  generalize hEC : erC s = EC at C1 qe
  clear hSN hEC
  go_enter Tryz.func36, Tryz.ntmps36
  go_wp2_with fail
  have k0 := cell_regrown c0
  have k1 := cell_regrown c1
  have k2 := cell_regrown c2
  have k3 := cell_regrown c3
  have k4 := cell_regrown c4
  have k5 := cell_regrown c5
  have k6 := cell_regrown c6
  have k7 := cell_regrown c7
  have k14 := cell_regrown c14
  clear c0 c1 c2 c3 c4 c5 c6 c7 c8 c9 c10 c11 c12 c13 c14 c15 c16 c17 c18 c19 c20 c21 cf
  try dsimp only [List.append]
  refine wp_region_quiet_below (by kernel_rfl) (by kernel_rfl) ?_
  repeat (go_big_quiet_step (first | (go_at_call 74; with_reducible exact C1 _ _) | (go_at_call 39; with_reducible exact C2 _ _)))
  refine wpQuiet_nil ?_
  intro _ hw'
  obtain ⟨⟨dq, osq⟩, hw''⟩ := hw'
  subst hw''
  have h2 := HRG.out dq osq
  clear HRG C1 C2 qe k0 k1 k2 k3 k4 k5 k6 k7 k14
  generalize Go.Sort.grow (redrawn w dq) osq = w2 at *
  obtain ⟨c0, c1, c2, c3, c4, c5, c6, c7, c8, c9, c10, c11, c12, c13, c14, c15, c16, c17, c18, c19, c20, c21, cf⟩ := rdCells h2
  have H2 := Lib.hid h2
  clear h2
  have h2 := H2.out
  have hx : Own w0 F0 (rpX kp p i u :: memA T m ws lg :: blk k (rdO p.c (.slice a1 p.c.ps.length z1) (.slice a2 p.c.ls.length z2) p.v p.n p.t vq 1 i (some ⟨kp, 0, none⟩) vA lv 0 0 0 kc) :: rdR (.slice a1 p.c.ps.length z1) (.slice a2 p.c.ls.length z2) vq p :: rcX kc p s :: L) w2 := (h2.p3).under fun _ _ h => h.p3
  clear h2
  go_wp2_with fail
  refine (HSt _ _ hx).out.mono ?_
  rintro e w3 ⟨rfl, hO⟩
  have h3 : Own w0 F0 (blk k (rdO p.c (.slice a1 p.c.ps.length z1) (.slice a2 p.c.ls.length z2) p.v p.n p.t vq 1 i (some ⟨kp, 0, none⟩) vA lv 0 0 0 kc) :: rpX kp p i A.1 :: memA T m A.2.1 A.2.2.1 :: rdR (.slice a1 p.c.ps.length z1) (.slice a2 p.c.ls.length z2) vq p :: rcX kc p s :: L) w3 := hO.p2
  clear hO hx H2 HSt c0 c1 c2 c3 c4 c5 c6 c7 c8 c9 c10 c11 c12 c13 c14 c15 c16 c17 c18 c19 c20 c21 cf
  rw [hfl]
  have h3 := h3.under fun _ _ h => h.p2.under fun _ _ h => h.p2
  obtain ⟨c0, c1, c2, c3, c4, c5, c6, c7, c8, c9, c10, c11, c12, c13, c14, c15, c16, c17, c18, c19, c20, c21, cf⟩ := rdCells h3
  have H3 := Lib.hid h3
  clear h3
  go_wp2_with fail
  go_ret
  exact ⟨rfl, H3.out⟩
set_option maxHeartbeats 2000000 in
theorem rdStep1_no {s : CS} {kp i : Nat} {B : Int} {u : PS} (hi : i < p.len) (hB : B ≤ 1000000000000000000) (hpw : PW (p.pp i) B ws) (hu : PSOk (p.pp i) B u) (hlg : lg.length < 1000000) (hfl : (stepP (p.pp i) u ws lg).2.2.2 = true) (he : erP (stepP (p.pp i) u ws lg).1 = 4) (hn : anP (p.nd i) (stepP (p.pp i) u ws lg).1 = p.nd i) (hp : p.Ok) (hs : CSOk p.cp s) (h : Own w0 F0 (blk k (rdO p.c vp vl p.v p.n p.t vq 1 i (some ⟨kp, 0, none⟩) vA lv 0 0 0 kc) :: rdR vp vl vq p :: rcX kc p s :: rpX kp p i u :: memA T m ws lg :: L) w) :
    Calls Tryz.prog 36 #[.pointer (some ⟨k, 0, none⟩), .pointer (some ⟨m, 0, none⟩)] w fun e w' => e = .returned (.bool false) ∧ Own w0 F0 (blk k (rdO p.c vp vl p.v p.n p.t vq 2 i (some ⟨kp, 0, none⟩) vA lv 4 0 (p.nd i) kc) :: rdR vp vl vq p :: rcX kc p s :: memA T m (stepP (p.pp i) u ws lg).2.1 (stepP (p.pp i) u ws lg).2.2.1 :: L) w' := by
  obtain ⟨a1, z1, a2, z2, rfl, rfl⟩ := rdR_sl h.swap
  have HSt := fun L w (h : Own w0 F0 (rpX kp p i u :: memA T m ws lg :: L) w) => Lib.hid (rpX_step hp hi hB hpw hu hlg h)
  clear hpw hlg hu hB
  generalize stepP (p.pp i) u ws lg = A at *
  have hn := cs_n hp hs
  have HT := fun w => Lib.hid (rd_tk (a1 := a1) (a2 := a2) (z1 := z1) (z2 := z2) hp s.n hn w)
  have HRG := Lib.hid (fun (d : Nat) (os : Array Obj) => h.below (below_regrown w d os))
  have C1 := fun d os => Calls.regrown_of (rcX_ans (HRG.out d os).p2)
  have C2 := fun d os => Calls.regrown_of (HT (Go.Sort.grow (redrawn w d) os)).out
  have qe := fun w => fld12N (erC s) (s.n : Int) false 0 w
  obtain ⟨c0, c1, c2, c3, c4, c5, c6, c7, c8, c9, c10, c11, c12, c13, c14, c15, c16, c17, c18, c19, c20, c21, cf⟩ := rdCells h
  obtain ⟨TK, hTK⟩ : ∃ TK, TK = tkN p.c s.n := ⟨_, rfl⟩
  rw [← hTK] at C2
  try rw [← hTK]
  have HTK := Lib.hid hTK
  have HS := Lib.hid hs
  have HPP := Lib.hid hp
  clear h HT hn hTK hs hp
  generalize hSN : (s.n : Int) = SN at C1 C2 qe
  generalize hEC : erC s = EC at C1 qe
  clear hSN hEC
  go_enter Tryz.func36, Tryz.ntmps36
  go_wp2_with fail
  have k0 := cell_regrown c0
  have k1 := cell_regrown c1
  have k2 := cell_regrown c2
  have k3 := cell_regrown c3
  have k4 := cell_regrown c4
  have k5 := cell_regrown c5
  have k6 := cell_regrown c6
  have k7 := cell_regrown c7
  have k14 := cell_regrown c14
  clear c0 c1 c2 c3 c4 c5 c6 c7 c8 c9 c10 c11 c12 c13 c14 c15 c16 c17 c18 c19 c20 c21 cf
  try dsimp only [List.append]
  refine wp_region_quiet_below (by kernel_rfl) (by kernel_rfl) ?_
  repeat (go_big_quiet_step (first | (go_at_call 74; with_reducible exact C1 _ _) | (go_at_call 39; with_reducible exact C2 _ _)))
  refine wpQuiet_nil ?_
  intro _ hw'
  obtain ⟨⟨dq, osq⟩, hw''⟩ := hw'
  subst hw''
  have h2 := HRG.out dq osq
  clear HRG C1 C2 qe k0 k1 k2 k3 k4 k5 k6 k7 k14
  generalize Go.Sort.grow (redrawn w dq) osq = w2 at *
  obtain ⟨c0, c1, c2, c3, c4, c5, c6, c7, c8, c9, c10, c11, c12, c13, c14, c15, c16, c17, c18, c19, c20, c21, cf⟩ := rdCells h2
  have H2 := Lib.hid h2
  clear h2
  have h2 := H2.out
  have hx : Own w0 F0 (rpX kp p i u :: memA T m ws lg :: blk k (rdO p.c (.slice a1 p.c.ps.length z1) (.slice a2 p.c.ls.length z2) p.v p.n p.t vq 1 i (some ⟨kp, 0, none⟩) vA lv 0 0 0 kc) :: rdR (.slice a1 p.c.ps.length z1) (.slice a2 p.c.ls.length z2) vq p :: rcX kc p s :: L) w2 := (h2.p3).under fun _ _ h => h.p3
  clear h2
  go_wp2_with fail
  refine (HSt _ _ hx).out.mono ?_
  rintro e w3 ⟨rfl, hO⟩
  have h3 : Own w0 F0 (blk k (rdO p.c (.slice a1 p.c.ps.length z1) (.slice a2 p.c.ls.length z2) p.v p.n p.t vq 1 i (some ⟨kp, 0, none⟩) vA lv 0 0 0 kc) :: rpX kp p i A.1 :: memA T m A.2.1 A.2.2.1 :: rdR (.slice a1 p.c.ps.length z1) (.slice a2 p.c.ls.length z2) vq p :: rcX kc p s :: L) w3 := hO.p2
  clear hO hx H2 HSt c0 c1 c2 c3 c4 c5 c6 c7 c8 c9 c10 c11 c12 c13 c14 c15 c16 c17 c18 c19 c20 c21 cf
  rw [hfl]
  have H3 := Lib.hid h3
  clear h3
  go_wp2_with fail
  refine (rdPooled_no he hn H3.out).mono ?_
  rintro e w4 ⟨rfl, h4⟩
  clear he hn
  have h4 := h4.under fun _ _ h => h.swap.under fun _ _ h => h.swap
  obtain ⟨c0, c1, c2, c3, c4, c5, c6, c7, c8, c9, c10, c11, c12, c13, c14, c15, c16, c17, c18, c19, c20, c21, cf⟩ := rdCells h4
  have H4 := Lib.hid h4
  clear h4 H3
  go_wp2_with fail
  go_ret
  exact ⟨rfl, H4.out⟩
set_option maxHeartbeats 2000000 in
theorem rdStep1_last {s : CS} {kp i : Nat} {B : Int} {u : PS} (hi : i < p.len) (hB : B ≤ 1000000000000000000) (hpw : PW (p.pp i) B ws) (hu : PSOk (p.pp i) B u) (hlg : lg.length < 1000000) (hfl : (stepP (p.pp i) u ws lg).2.2.2 = true) (he : erP (stepP (p.pp i) u ws lg).1 = 0) (hl2 : i + 1 = p.len) (hp : p.Ok) (hs : CSOk p.cp s) (h : Own w0 F0 (blk k (rdO p.c vp vl p.v p.n p.t vq 1 i (some ⟨kp, 0, none⟩) vA lv 0 0 0 kc) :: rdR vp vl vq p :: rcX kc p s :: rpX kp p i u :: memA T m ws lg :: L) w) :
    Calls Tryz.prog 36 #[.pointer (some ⟨k, 0, none⟩), .pointer (some ⟨m, 0, none⟩)] w fun e w' => e = .returned (.bool false) ∧ Own w0 F0 (blk k (rdO p.c vp vl p.v p.n p.t vq 3 (i + 1 : Nat) (some ⟨kp, 0, none⟩) vA lv 0 0 0 kc) :: rdR vp vl vq p :: rcX kc p s :: memA T m (stepP (p.pp i) u ws lg).2.1 (stepP (p.pp i) u ws lg).2.2.1 :: L) w' := by
  obtain ⟨a1, z1, a2, z2, rfl, rfl⟩ := rdR_sl h.swap
  have HSt := fun L w (h : Own w0 F0 (rpX kp p i u :: memA T m ws lg :: L) w) => Lib.hid (rpX_step hp hi hB hpw hu hlg h)
  clear hpw hlg hu hB
  generalize stepP (p.pp i) u ws lg = A at *
  have hn := cs_n hp hs
  have HT := fun w => Lib.hid (rd_tk (a1 := a1) (a2 := a2) (z1 := z1) (z2 := z2) hp s.n hn w)
  have HRG := Lib.hid (fun (d : Nat) (os : Array Obj) => h.below (below_regrown w d os))
  have C1 := fun d os => Calls.regrown_of (rcX_ans (HRG.out d os).p2)
  have C2 := fun d os => Calls.regrown_of (HT (Go.Sort.grow (redrawn w d) os)).out
  have qe := fun w => fld12N (erC s) (s.n : Int) false 0 w
  obtain ⟨c0, c1, c2, c3, c4, c5, c6, c7, c8, c9, c10, c11, c12, c13, c14, c15, c16, c17, c18, c19, c20, c21, cf⟩ := rdCells h
  obtain ⟨TK, hTK⟩ : ∃ TK, TK = tkN p.c s.n := ⟨_, rfl⟩
  rw [← hTK] at C2
  try rw [← hTK]
  have HTK := Lib.hid hTK
  have HS := Lib.hid hs
  have HPP := Lib.hid hp
  clear h HT hn hTK hs hp
  generalize hSN : (s.n : Int) = SN at C1 C2 qe
  generalize hEC : erC s = EC at C1 qe
  clear hSN hEC
  go_enter Tryz.func36, Tryz.ntmps36
  go_wp2_with fail
  have k0 := cell_regrown c0
  have k1 := cell_regrown c1
  have k2 := cell_regrown c2
  have k3 := cell_regrown c3
  have k4 := cell_regrown c4
  have k5 := cell_regrown c5
  have k6 := cell_regrown c6
  have k7 := cell_regrown c7
  have k14 := cell_regrown c14
  clear c0 c1 c2 c3 c4 c5 c6 c7 c8 c9 c10 c11 c12 c13 c14 c15 c16 c17 c18 c19 c20 c21 cf
  try dsimp only [List.append]
  refine wp_region_quiet_below (by kernel_rfl) (by kernel_rfl) ?_
  repeat (go_big_quiet_step (first | (go_at_call 74; with_reducible exact C1 _ _) | (go_at_call 39; with_reducible exact C2 _ _)))
  refine wpQuiet_nil ?_
  intro _ hw'
  obtain ⟨⟨dq, osq⟩, hw''⟩ := hw'
  subst hw''
  have h2 := HRG.out dq osq
  clear HRG C1 C2 qe k0 k1 k2 k3 k4 k5 k6 k7 k14
  generalize Go.Sort.grow (redrawn w dq) osq = w2 at *
  obtain ⟨c0, c1, c2, c3, c4, c5, c6, c7, c8, c9, c10, c11, c12, c13, c14, c15, c16, c17, c18, c19, c20, c21, cf⟩ := rdCells h2
  have H2 := Lib.hid h2
  clear h2
  have h2 := H2.out
  have hx : Own w0 F0 (rpX kp p i u :: memA T m ws lg :: blk k (rdO p.c (.slice a1 p.c.ps.length z1) (.slice a2 p.c.ls.length z2) p.v p.n p.t vq 1 i (some ⟨kp, 0, none⟩) vA lv 0 0 0 kc) :: rdR (.slice a1 p.c.ps.length z1) (.slice a2 p.c.ls.length z2) vq p :: rcX kc p s :: L) w2 := (h2.p3).under fun _ _ h => h.p3
  clear h2
  go_wp2_with fail
  refine (HSt _ _ hx).out.mono ?_
  rintro e w3 ⟨rfl, hO⟩
  have h3 : Own w0 F0 (blk k (rdO p.c (.slice a1 p.c.ps.length z1) (.slice a2 p.c.ls.length z2) p.v p.n p.t vq 1 i (some ⟨kp, 0, none⟩) vA lv 0 0 0 kc) :: rpX kp p i A.1 :: memA T m A.2.1 A.2.2.1 :: rdR (.slice a1 p.c.ps.length z1) (.slice a2 p.c.ls.length z2) vq p :: rcX kc p s :: L) w3 := hO.p2
  clear hO hx H2 HSt c0 c1 c2 c3 c4 c5 c6 c7 c8 c9 c10 c11 c12 c13 c14 c15 c16 c17 c18 c19 c20 c21 cf
  rw [hfl]
  have h3 := h3.under fun _ _ h => h.under fun _ _ h => h.swap.under fun _ _ h => h.swap
  have Hl2 := Lib.hid hl2
  clear hl2
  have H3 := Lib.hid h3
  clear h3
  go_wp2_with fail
  refine (rdPooled_last HPP.out hi he Hl2.out H3.out).mono ?_
  rintro e w4 ⟨rfl, h4⟩
  clear he hi
  obtain ⟨c0, c1, c2, c3, c4, c5, c6, c7, c8, c9, c10, c11, c12, c13, c14, c15, c16, c17, c18, c19, c20, c21, cf⟩ := rdCells h4
  have H4 := Lib.hid h4
  clear h4 H3
  go_wp2_with fail
  go_ret
  exact ⟨rfl, H4.out⟩
set_option maxHeartbeats 2000000 in
theorem rdStep1_more {s : CS} {kp i : Nat} {B : Int} {u : PS} (hi : i < p.len) (hB : B ≤ 1000000000000000000) (hpw : PW (p.pp i) B ws) (hu : PSOk (p.pp i) B u) (hlg : lg.length < 1000000) (hfl : (stepP (p.pp i) u ws lg).2.2.2 = true) (he : erP (stepP (p.pp i) u ws lg).1 = 0) (hl2 : i + 1 < p.len) (hp : p.Ok) (hs : CSOk p.cp s) (h : Own w0 F0 (blk k (rdO p.c vp vl p.v p.n p.t vq 1 i (some ⟨kp, 0, none⟩) vA lv 0 0 0 kc) :: rdR vp vl vq p :: rcX kc p s :: rpX kp p i u :: memA T m ws lg :: L) w) :
    Calls Tryz.prog 36 #[.pointer (some ⟨k, 0, none⟩), .pointer (some ⟨m, 0, none⟩)] w fun e w' => e = .returned (.bool false) ∧ ∃ kp, Own w0 F0 (blk k (rdO p.c vp vl p.v p.n p.t vq 1 (i + 1 : Nat) (some ⟨kp, 0, none⟩) vA lv 0 0 0 kc) :: rdR vp vl vq p :: rcX kc p s :: rpX kp p (i + 1) s0P :: memA T m (stepP (p.pp i) u ws lg).2.1 (stepP (p.pp i) u ws lg).2.2.1 :: L) w' := by
  obtain ⟨a1, z1, a2, z2, rfl, rfl⟩ := rdR_sl h.swap
  have HSt := fun L w (h : Own w0 F0 (rpX kp p i u :: memA T m ws lg :: L) w) => Lib.hid (rpX_step hp hi hB hpw hu hlg h)
  clear hpw hlg hu hB
  generalize stepP (p.pp i) u ws lg = A at *
  have hn := cs_n hp hs
  have HT := fun w => Lib.hid (rd_tk (a1 := a1) (a2 := a2) (z1 := z1) (z2 := z2) hp s.n hn w)
  have HRG := Lib.hid (fun (d : Nat) (os : Array Obj) => h.below (below_regrown w d os))
  have C1 := fun d os => Calls.regrown_of (rcX_ans (HRG.out d os).p2)
  have C2 := fun d os => Calls.regrown_of (HT (Go.Sort.grow (redrawn w d) os)).out
  have qe := fun w => fld12N (erC s) (s.n : Int) false 0 w
  obtain ⟨c0, c1, c2, c3, c4, c5, c6, c7, c8, c9, c10, c11, c12, c13, c14, c15, c16, c17, c18, c19, c20, c21, cf⟩ := rdCells h
  obtain ⟨TK, hTK⟩ : ∃ TK, TK = tkN p.c s.n := ⟨_, rfl⟩
  rw [← hTK] at C2
  try rw [← hTK]
  have HTK := Lib.hid hTK
  have HS := Lib.hid hs
  have HPP := Lib.hid hp
  clear h HT hn hTK hs hp
  generalize hSN : (s.n : Int) = SN at C1 C2 qe
  generalize hEC : erC s = EC at C1 qe
  clear hSN hEC
  go_enter Tryz.func36, Tryz.ntmps36
  go_wp2_with fail
  have k0 := cell_regrown c0
  have k1 := cell_regrown c1
  have k2 := cell_regrown c2
  have k3 := cell_regrown c3
  have k4 := cell_regrown c4
  have k5 := cell_regrown c5
  have k6 := cell_regrown c6
  have k7 := cell_regrown c7
  have k14 := cell_regrown c14
  clear c0 c1 c2 c3 c4 c5 c6 c7 c8 c9 c10 c11 c12 c13 c14 c15 c16 c17 c18 c19 c20 c21 cf
  try dsimp only [List.append]
  refine wp_region_quiet_below (by kernel_rfl) (by kernel_rfl) ?_
  repeat (go_big_quiet_step (first | (go_at_call 74; with_reducible exact C1 _ _) | (go_at_call 39; with_reducible exact C2 _ _)))
  refine wpQuiet_nil ?_
  intro _ hw'
  obtain ⟨⟨dq, osq⟩, hw''⟩ := hw'
  subst hw''
  have h2 := HRG.out dq osq
  clear HRG C1 C2 qe k0 k1 k2 k3 k4 k5 k6 k7 k14
  generalize Go.Sort.grow (redrawn w dq) osq = w2 at *
  obtain ⟨c0, c1, c2, c3, c4, c5, c6, c7, c8, c9, c10, c11, c12, c13, c14, c15, c16, c17, c18, c19, c20, c21, cf⟩ := rdCells h2
  have H2 := Lib.hid h2
  clear h2
  have h2 := H2.out
  have hx : Own w0 F0 (rpX kp p i u :: memA T m ws lg :: blk k (rdO p.c (.slice a1 p.c.ps.length z1) (.slice a2 p.c.ls.length z2) p.v p.n p.t vq 1 i (some ⟨kp, 0, none⟩) vA lv 0 0 0 kc) :: rdR (.slice a1 p.c.ps.length z1) (.slice a2 p.c.ls.length z2) vq p :: rcX kc p s :: L) w2 := (h2.p3).under fun _ _ h => h.p3
  clear h2
  go_wp2_with fail
  refine (HSt _ _ hx).out.mono ?_
  rintro e w3 ⟨rfl, hO⟩
  have h3 : Own w0 F0 (blk k (rdO p.c (.slice a1 p.c.ps.length z1) (.slice a2 p.c.ls.length z2) p.v p.n p.t vq 1 i (some ⟨kp, 0, none⟩) vA lv 0 0 0 kc) :: rpX kp p i A.1 :: memA T m A.2.1 A.2.2.1 :: rdR (.slice a1 p.c.ps.length z1) (.slice a2 p.c.ls.length z2) vq p :: rcX kc p s :: L) w3 := hO.p2
  clear hO hx H2 HSt c0 c1 c2 c3 c4 c5 c6 c7 c8 c9 c10 c11 c12 c13 c14 c15 c16 c17 c18 c19 c20 c21 cf
  rw [hfl]
  have h3 := h3.under fun _ _ h => h.under fun _ _ h => h.swap.under fun _ _ h => h.swap
  have Hl2 := Lib.hid hl2
  clear hl2
  have H3 := Lib.hid h3
  clear h3
  go_wp2_with fail
  refine (rdPooled_more HPP.out hi he Hl2.out H3.out).mono ?_
  rintro e w4 ⟨rfl, kp, h4⟩
  clear he hi
  have h4 := h4.under fun _ _ h => h.swap.under fun _ _ h => h.swap
  obtain ⟨c0, c1, c2, c3, c4, c5, c6, c7, c8, c9, c10, c11, c12, c13, c14, c15, c16, c17, c18, c19, c20, c21, cf⟩ := rdCells h4
  have H4 := Lib.hid h4
  clear h4 H3
  go_wp2_with fail
  go_ret
  exact ⟨rfl, kp, H4.out⟩
end
end Go.Proofs.YtlpdafldabfiaaaGreat
end
