/- Texts of elder layers, one behind the other: ClaimMach, ShiftMath, ShiftCalls, ShiftStep, ShiftRef, ShiftMath2, ShiftRef2, ShiftMach, AdmitCode, ReleaseCode, ReleaseDo, ReleaseGo, ReleaseOpen, ReleaseMach, ReleaseFacts, ReleaseCrew, RelFacts, RelSums, Use. -/
import Derived.Test.YtlpdafldabfiaaaGreatC28
import Derived.Test.YtlpdafldabfiaaaGreatC31
import Derived.Test.YtlpdafldabfiaaaGreatC33
import Derived.Stop.RegionWithIn
import Derived.Deep.RegionHeld3
import Derived.Deep.QuietTactic
import Derived.BigQuiet
import Derived.Laws.EntriesVeiled
import Derived.Deep.RegionWith
import Derived.Lib.QuietBelow
import Derived.Deep.Upon
section
namespace Go.Proofs.YtlpdafldabfiaaaGreat
open Go.ChangeShapes Go.WideShapes Go.ChangeAt Go.RowKit Go.Shelf
set_option linter.unusedVariables false
set_option linter.unusedSimpArgs false
set_option maxRecDepth 100000
variable {w0 w w' : World} {F0 : Nat → Prop} {L : List Asn} {T : TypeId} {m : Nat} {ws : List Int} {lg : List Acc}
section
variable {g : Nat} {was wd er n : Int} {fr : Bool}
end
section
variable {g b j c : Nat} {was wd er n : Int} {fr : Bool} {p : CP}
end
section
attribute [local go_sem] Oper.semAt_some
end
section
variable {n l : Nat} {P : Program} {ops : Array Oper} {Q : Exit → Act → World → Prop} {md : Region.Mode}
end
section
attribute [local go_sem] Oper.semAt_some
variable {pp pl : Option Addr} {cp cl B i : Nat} {c : Cf} {p : CP} {A R : Asn} {vp vl v vp' : Value}
end
section
variable {g b j c k : Nat} {was wd er n : Int} {fr : Bool} {p : CP} {q : Option Addr} {pp pl : Option Addr} {cp cl : Nat}
end
end Go.Proofs.YtlpdafldabfiaaaGreat
end
section
namespace Go.Proofs.YtlpdafldabfiaaaGreat
open Go.RowKit
set_option linter.unusedVariables false
structure QP where
  kd : Nat
  fi : Nat
  la : Nat
  n : Int
  by_ : Int
structure QS where
  at_ : Nat
  saw : Int
  r : Bool
variable {p : QP} {s : QS} {ws : List Int} {lg : List Acc} {B : Int}
end Go.Proofs.YtlpdafldabfiaaaGreat
end
section
namespace Go.Proofs.YtlpdafldabfiaaaGreat
open Go.ChangeShapes Go.WideShapes Go.ChangeAt Go.RowKit Go.Shelf
set_option linter.unusedVariables false
set_option linter.unusedSimpArgs false
set_option maxRecDepth 100000
variable {w0 w w' : World} {F0 : Nat → Prop} {L : List Asn} {T : TypeId} {m : Nat} {ws : List Int} {lg : List Acc} {pp pl : Option Addr} {np cp nl cl : Nat}
section
variable {k b len : Nat} {at_ nd n li av wa er an : Int}
end
end Go.Proofs.YtlpdafldabfiaaaGreat
end
section
namespace Go.Proofs.YtlpdafldabfiaaaGreat
open Go.ChangeShapes Go.WideShapes Go.ChangeAt Go.RowKit Go.Shelf
set_option linter.unusedVariables false
set_option linter.unusedSimpArgs false
set_option maxRecDepth 100000
variable {w0 w w' : World} {F0 : Nat → Prop} {L : List Asn} {T : TypeId} {m : Nat} {ws : List Int} {lg : List Acc} {pp pl : Option Addr} {np cp nl cl : Nat}
section
variable {g b : Nat} {nd n li av wa er an : Int}

end
end Go.Proofs.YtlpdafldabfiaaaGreat
end
section
namespace Go.Proofs.YtlpdafldabfiaaaGreat
open Go.ChangeShapes Go.WideShapes Go.ChangeAt Go.RowKit Go.Shelf
set_option linter.unusedVariables false
set_option linter.unusedSimpArgs false
set_option maxRecDepth 100000
variable {w0 w w' : World} {F0 : Nat → Prop} {L : List Asn} {T : TypeId} {m : Nat} {ws : List Int} {lg : List Acc}
section
variable {k : Nat} {c : Cf} {pp pl : Option Addr} {np cp nl cl : Nat} {kd nd n saw er an bb : Int} {li av : Nat}
end
end Go.Proofs.YtlpdafldabfiaaaGreat
end
section
namespace Go.Proofs.YtlpdafldabfiaaaGreat
open Go.RowKit
set_option linter.unusedVariables false
variable {p : QP} {s : QS} {ws : List Int} {lg : List Acc} {B : Int}
end Go.Proofs.YtlpdafldabfiaaaGreat
end
section
namespace Go.Proofs.YtlpdafldabfiaaaGreat
open Go.ChangeShapes Go.WideShapes Go.ChangeAt Go.RowKit Go.Shelf
set_option linter.unusedVariables false
set_option maxRecDepth 100000
variable {w0 w w' : World} {F0 : Nat → Prop} {L : List Asn} {T : TypeId} {m : Nat} {ws : List Int} {lg : List Acc} {pp pl : Option Addr} {np cp nl cl : Nat}
end Go.Proofs.YtlpdafldabfiaaaGreat
end
section
namespace Go.Proofs.YtlpdafldabfiaaaGreat
open Go.ChangeShapes Go.WideShapes Go.ChangeAt Go.RowKit Go.Shelf
set_option linter.unusedVariables false
set_option linter.unusedSimpArgs false
set_option maxRecDepth 100000
variable {w0 w w' : World} {F0 : Nat → Prop} {L : List Asn} {T : TypeId} {m : Nat} {ws : List Int} {lg : List Acc} {pp pl : Option Addr} {np cp nl cl : Nat}
section
variable {g b len : Nat} {at_ nd n li av wa er an : Int}
end
end Go.Proofs.YtlpdafldabfiaaaGreat
end
section
namespace Go.Proofs.YtlpdafldabfiaaaGreat
open Go.ChangeShapes Go.WideShapes Go.ChangeAt Go.RowKit Go.Shelf
set_option linter.unusedVariables false
set_option linter.unusedSimpArgs false
set_option maxRecDepth 100000
variable {w0 w w' W : World} {F0 : Nat → Prop} {L : List Asn} {T : TypeId} {m : Nat} {ws : List Int} {lg : List Acc}
section
variable {c : Cf} {vp vl : Value} {kc : Nat} {v n t : Int}
end
section
variable {c : Cf} {pp pl : Option Addr} {np cp nl cl kc : Nat} {v n t : Int} {q : CP} {s : CS} {l : List (Nat × Obj)} {b b2 : Nat}
end
end Go.Proofs.YtlpdafldabfiaaaGreat
end
section
namespace Go.Proofs.YtlpdafldabfiaaaGreat
open Go.ChangeShapes Go.WideShapes Go.ChangeAt Go.RowKit Go.Shelf
set_option linter.unusedVariables false
set_option linter.unusedSimpArgs false
set_option maxRecDepth 100000
variable {w0 w w' W : World} {F0 : Nat → Prop} {L : List Asn} {T : TypeId} {m : Nat} {ws : List Int} {lg : List Acc}
section
variable {g : Nat} {lf : Value} {c : Cf} {vp vl : Value} {ti ve th wa nd n er an xd : Int}
end
section
variable {g : Nat} {lf : Value} {c : Cf} {pp pl : Option Addr} {np cp nl cl : Nat} {ti ve th wa nd n er an xd : Int}
end
section
variable {g : Nat} {lf : Value} {c : Cf} {pp pl : Option Addr} {np cp nl cl : Nat} {ti ve th wa nd n er an xd : Int} {b b2 : Nat}
end
section
variable {g : Nat} {lf : Value} {c : Cf} {pp pl : Option Addr} {np cp nl cl : Nat} {ti ve th wa nd n er an xd : Int}
end
end Go.Proofs.YtlpdafldabfiaaaGreat
end
section
namespace Go.Proofs.YtlpdafldabfiaaaGreat
open Go.ChangeShapes Go.WideShapes Go.ChangeAt Go.RowKit Go.Shelf
set_option linter.unusedVariables false
set_option linter.unusedSimpArgs false
set_option maxRecDepth 100000
variable {w0 w w' W : World} {F0 : Nat → Prop} {L : List Asn} {T : TypeId} {m : Nat} {ws : List Int} {lg : List Acc}
section
variable {g : Nat} {lf : Value} {c : Cf} {pp pl : Option Addr} {np cp nl cl : Nat} {ti ve th wa nd n er an xd : Int}
end
section
variable {g b : Nat} {M M' : List Asn}
end
section
variable {b : Nat} {R : Value → World → Prop}
end
end Go.Proofs.YtlpdafldabfiaaaGreat
end
section
namespace Go.Proofs.YtlpdafldabfiaaaGreat
open Go.ChangeShapes Go.WideShapes Go.ChangeAt Go.RowKit Go.Shelf
set_option linter.unusedVariables false
set_option linter.unusedSimpArgs false
set_option maxRecDepth 100000
variable {w0 w w' W : World} {F0 : Nat → Prop} {L : List Asn} {T : TypeId} {m : Nat} {ws : List Int} {lg : List Acc}
section
variable {g : Nat} {lf : Value} {c : Cf} {vp vl : Value} {ti ve th wa nd n er an xd wa' nd' n' er' an' xd' : Int}
end
end Go.Proofs.YtlpdafldabfiaaaGreat
end
section
namespace Go.Proofs.YtlpdafldabfiaaaGreat
open Go.ChangeShapes Go.WideShapes Go.ChangeAt Go.RowKit Go.Shelf
set_option linter.unusedVariables false
set_option linter.unusedSimpArgs false
set_option maxRecDepth 100000
variable {w0 w w' W : World} {F0 : Nat → Prop} {L : List Asn} {T : TypeId} {m : Nat} {ws : List Int} {lg : List Acc}
abbrev Bq := List (Nat × Obj)
section
variable {g : Nat} {l l' : Bq}
end
section
variable {g : Nat} {lf : Value} {ti ve th wa nd n er an xd : Int} {p : DP} {a1 a2 : Option Addr} {z1 z2 : Nat}
end
end Go.Proofs.YtlpdafldabfiaaaGreat
end
section
namespace Go.Proofs.YtlpdafldabfiaaaGreat
open Go.ChangeShapes Go.WideShapes Go.ChangeAt Go.RowKit Go.Shelf
set_option linter.unusedVariables false
set_option linter.unusedSimpArgs false
set_option maxRecDepth 100000
variable {w0 w w' W : World} {F0 : Nat → Prop} {L : List Asn} {T : TypeId} {m : Nat} {ws : List Int} {lg : List Acc}
section
variable {g : Nat} {vp vl : Value} {p : RP} {s : RS} {M : Asn}
end
section
variable {g : Nat} {a1 a2 : Option Addr} {z1 z2 : Nat} {p : RP}
end
end Go.Proofs.YtlpdafldabfiaaaGreat
end
section
namespace Go.Proofs.YtlpdafldabfiaaaGreat
open Go.ChangeShapes Go.WideShapes Go.ChangeAt Go.RowKit Go.Shelf
set_option linter.unusedVariables false
set_option linter.unusedSimpArgs false
set_option maxRecDepth 100000
variable {w w' W : World} {L : List Asn} {T : TypeId} {m : Nat} {ws ws0 : List Int} {lg l0 : List Acc} {l : List Pk} {vp vl : Value}
end Go.Proofs.YtlpdafldabfiaaaGreat
end
section
namespace Go.Proofs.YtlpdafldabfiaaaGreat
open Go.RowKit
set_option linter.unusedVariables false
structure RC where
  c : Cf
  K : Nat
  k : Nat
  g : Int
variable {P : RC} {B0 : Int} {W0 ws : List Int} {σ : Nat → RS} {cn : Nat → Int} {T : Nat} {lg : List Acc}
end Go.Proofs.YtlpdafldabfiaaaGreat
end
section
namespace Go.Proofs.YtlpdafldabfiaaaGreat
open Go.RowKit
set_option linter.unusedVariables false
variable {ws ws' W0 : List Int} {lg lg' : List Acc} {B : Int} {c : Cf} {ts : List Nat} {hs : List Int} {h : Int} {th k : Nat}
end Go.Proofs.YtlpdafldabfiaaaGreat
end
section
namespace Go.Proofs.YtlpdafldabfiaaaGreat
open Go.ChangeShapes Go.WideShapes Go.ChangeAt Go.RowKit Go.Shelf
set_option linter.unusedVariables false
set_option linter.unusedSimpArgs false
set_option maxRecDepth 100000
variable {w0 w w' W : World} {F0 : Nat → Prop} {L : List Asn} {T : TypeId} {m : Nat} {ws : List Int} {lg lg0 : List Acc} {c : Cf} {B : Int} {pp pl : Option Addr} {cp cl : Nat}
theorem uCtr_any (hr : c.Rt) (u : Nat) (hu : u < c.ps.length) (w : World) :
    Calls Tryz.prog 33 #[cfV c (.slice pp c.ps.length cp) (.slice pl c.ls.length cl), .int .i64 u] w fun e w' => e = .returned (.int .i64 (ctN c u)) ∧ Below w.heap.size w w' := by
  have hn12 := hr.n1
  have h := Counter_q (pp := pp) (np := c.ps.length) (cp := cp) (pl := pl) (nl := c.ls.length) (cl := cl) c hr.sm (u : Int) (by omega) (by omega) w
  rw [limN_eq hr.sm, (st_nat hr).1] at h; unfold ctN; push_cast; push_cast at h; exact h
theorem uSum_any (hr : c.Rt) (hw : DW c B ws) (u : Nat) (hu : u < c.ps.length) (h : Own w0 F0 (memA T m ws lg :: L) w) :
    Calls Tryz.prog 32 #[.pointer (some ⟨m, 0, none⟩), .int .i64 (ctN c u), .int .i64 c.st] w fun e w' => e = .returned (.int .i64 (wrap64 (sumZ (ctP c u 0) ws))) ∧ Below w.heap.size w w' := by
  have st := st_nat hr
  have hlt := limN_lt c hu
  have hl1 := hw.len
  have hsz := sizeN_bd hr
  have h := addSum_b (ctP c u 0) c.st.toNat st.1 st.2.1 st.2.2 (by show ctN c u ≤ 1000; unfold ctN; unfold sizeN at hsz; omega) (by show ctN c u + 4 + _ ≤ _; rw [hl1]; unfold ctN sizeN; omega) (by omega) hw.wf h
  rw [← st.1] at h
  exact h
end Go.Proofs.YtlpdafldabfiaaaGreat
end
section
namespace Go.Proofs.YtlpdafldabfiaaaGreat
open Go.ChangeShapes Go.WideShapes Go.ChangeAt Go.RowKit Go.Shelf
set_option linter.unusedVariables false
set_option linter.unusedSimpArgs false
set_option maxRecDepth 100000
variable {w0 w w' : World} {F0 : Nat → Prop} {L : List Asn} {ws : List Int} {c : Cf} {pp pl : Option Addr} {cp cl : Nat} {vr : Value}
theorem uLive_any (hr : c.Rt) (hlen : ws.length = sizeN c) (hwf : ∀ k, I64 (ws.getD k 0)) (k : Nat) (hk : k < c.ti.toNat) (hv : IntsAt w .i64 vr ws) :
    Calls Tryz.prog 13 #[cfV c (.slice pp c.ps.length cp) (.slice pl c.ls.length cl), vr, .int .i64 (k : Nat)] w fun e w' => e = .returned (.tuple #[.int .i64 (livV c ws k), .int .i64 (livN c ws k), .bool (livB c ws k)]) ∧ Below w.heap.size w w' := by
  obtain ⟨pv, cv, rfl⟩ := hv.slice
  have h1 := (Own.start w).new (cfO c (.slice pp c.ps.length cp) (.slice pl c.ls.length cl))
  have HT := Lib.hid (lTicket_any (pp := pp) (cp := cp) (pl := pl) (cl := cl) hr hlen hwf k hk (hv.below h1.toBelow))
  have H1 := Lib.hid h1
  obtain ⟨d0, d1, d2, d3, d4, d5, d6, d7⟩ := conf_cells h1
  clear h1 hr hlen hwf hv
  generalize livV c ws k = xv at *
  generalize livN c ws k = xn at *
  generalize livB c ws k = xb at *
  go_enter Tryz.func13, Tryz.ntmps13
  go_wp2_with fail
  refine HT.out.mono ?_
  rintro e w3 ⟨rfl, hB⟩
  have h3 := (H1.out.below hB).new (.cells #[.int .i64 xv, .int .i64 xn] 80)
  have HB := Lib.hid h3.toBelow
  have k0 : (w3.alloc (.cells #[.int .i64 xv, .int .i64 xn] 80)).cell? ⟨w3.heap.size, 0, none⟩ = some (.int .i64 xv) := h3.cell (i := 0) rfl
  have k1 : (w3.alloc (.cells #[.int .i64 xv, .int .i64 xn] 80)).cell? ⟨w3.heap.size, 1, none⟩ = some (.int .i64 xn) := h3.cell (i := 1) rfl
  clear h3 hB H1 HT d0 d1 d2 d3 d4 d5 d6 d7
  go_wp2_with fail
  generalize World.alloc w3 _ = w4 at *
  generalize w3.heap.size = B at *
  have x0 := cell_regrown k0
  have x1 := cell_regrown k1
  refine wp_region_quiet_below (by kernel_rfl) (by kernel_rfl) ?_
  repeat (go_big_quiet_step (fail))
  refine wpQuiet_nil ?_
  intro _ hw'
  obtain ⟨⟨dq, osq⟩, hw''⟩ := hw'
  subst hw''
  have HB2 := Lib.hid (below_more HB.out (below_regrown w4 dq osq))
  clear x0 x1 k0 k1 HB
  go_wp2_with fail
  go_ret3
  exact ⟨rfl, HB2.out⟩
theorem uUsed_any (hr : c.Rt) (hlen : ws.length = sizeN c) (hwf : ∀ k, I64 (ws.getD k 0)) (u : Nat) (hv : IntsAt w .i64 vr ws) (hp : IntsAt w .i64 (.slice pp c.ps.length cp) c.ps) (hl : IntsAt w .i64 (.slice pl c.ls.length cl) c.ls) :
    Calls Tryz.prog 15 #[cfV c (.slice pp c.ps.length cp) (.slice pl c.ls.length cl), vr, .int .i64 (u : Nat)] w fun e w' => e = .returned (.int .i64 (usedU c ws u)) ∧ Below w.heap.size w w' := by
  obtain ⟨pv, cv, rfl⟩ := hv.slice
  have h1 := (Own.start w).new (cfO c (.slice pp c.ps.length cp) (.slice pl c.ls.length cl))
  have HT := Lib.hid (lUsed_any (pp := pp) (cp := cp) (pl := pl) (cl := cl) hr hlen hwf u (hv.below h1.toBelow) (hp.below h1.toBelow) (hl.below h1.toBelow))
  have H1 := Lib.hid h1
  obtain ⟨d0, d1, d2, d3, d4, d5, d6, d7⟩ := conf_cells h1
  clear h1 hr hlen hwf hv hp hl
  generalize usedU c ws u = x at *
  go_enter Tryz.func15, Tryz.ntmps15
  go_wp2_with fail
  refine HT.out.mono ?_
  rintro e w3 ⟨rfl, hB⟩
  have HB := Lib.hid (H1.out.below hB).toBelow
  clear hB H1 HT d0 d1 d2 d3 d4 d5 d6 d7
  go_wp2_with fail
  go_ret
  exact ⟨rfl, HB.out⟩
theorem ctN_bd (hr : c.Rt) {u : Nat} (hu : u < c.ps.length) : ctN c u + 20 ≤ 1000 := by
  have := sizeN_bd hr
  have := limN_lt c hu
  have st := st_nat hr
  unfold sizeN at *; unfold ctN; omega
theorem uPeek_any (hr : c.Rt) (u : Nat) (hu : u < c.ps.length) (h : Own w0 F0 L w) :
    Calls Tryz.prog 29 #[cfV c (.slice pp c.ps.length cp) (.slice pl c.ls.length cl), .int .i64 (u : Nat)] w fun e w' => ∃ g, e = .returned (.pointer (some ⟨g, 0, none⟩)) ∧ Own w0 F0 (peekA g (ctN c u) ⟨false, 0⟩ :: L) w' := by
  have h1 := h.new (cfO c (.slice pp c.ps.length cp) (.slice pl c.ls.length cl))
  have HC := fun w => Lib.hid (uCtr_any (pp := pp) (cp := cp) (pl := pl) (cl := cl) hr u hu w)
  have hb := ctN_bd hr hu
  obtain ⟨d0, d1, d2, d3, d4, d5, d6, d7⟩ := conf_cells h1
  have H1 := Lib.hid h1
  generalize ctN c u = b at *
  clear h h1 hr hu
  go_enter Tryz.func29, Tryz.ntmps29
  go_wp2_with fail
  refine (HC _).out.mono ?_
  rintro e w2 ⟨rfl, hB⟩
  have HP := Lib.hid (Peek_any b (by omega) (H1.out.below hB))
  clear hB H1 HC d0 d1 d2 d3 d4 d5 d6 d7
  go_wp2_with fail
  refine HP.out.mono ?_
  rintro e w3 ⟨g, rfl, hO⟩
  have HO := Lib.hid hO.swap.drop
  clear hO HP
  go_wp2_with fail
  go_ret
  exact ⟨g, rfl, HO.out⟩
theorem uCount_any (hr : c.Rt) (u : Nat) (hu : u < c.ps.length) (h : Own w0 F0 L w) :
    Calls Tryz.prog 20 #[cfV c (.slice pp c.ps.length cp) (.slice pl c.ls.length cl), .int .i64 (u : Nat)] w fun e w' => ∃ g, e = .returned (.pointer (some ⟨g, 0, none⟩)) ∧ Own w0 F0 (cntA g (ctN c u) c.st.toNat (s0S c.re.toNat) :: L) w' := by
  have h1 := h.new (cfO c (.slice pp c.ps.length cp) (.slice pl c.ls.length cl))
  have HC := fun w => Lib.hid (uCtr_any (pp := pp) (cp := cp) (pl := pl) (cl := cl) hr u hu w)
  have hb := ctN_bd hr hu
  have st := st_nat hr
  have hre := hr.re
  have hlt := h1.inHeap
  obtain ⟨d0, d1, d2, d3, d4, d5, d6, d7⟩ := conf_cells h1
  have H1 := Lib.hid h1
  have HP := fun B w (h : Own w0 F0 (blk B (cfO c (.slice pp c.ps.length cp) (.slice pl c.ls.length cl)) :: L) w) => Lib.hid (Count_any (ctN c u) c.st.toNat c.re st.2.1 st.2.2 (by omega) h)
  rw [← st.1] at HP
  have HE := Lib.hid (show ∀ g b S, cntA g b S (s0S c.re.toNat) = cntB g b S [] c.re 0 false from fun g b S => by
    unfold cntA s0S
    rw [if_neg (by simp)]
    unfold Bd at hre
    show cntB g b S [] (c.re.toNat : Int) 0 false = _
    rw [show ((c.re.toNat : Nat) : Int) = c.re by omega])
  clear h h1 hre st hb hr hu hlt
  generalize ctN c u = b at *
  generalize c.st.toNat = S at *
  generalize c.re.toNat = r at *
  go_enter Tryz.func20, Tryz.ntmps20
  go_wp2_with fail
  generalize w.heap.size = B at *
  generalize World.alloc w _ = w1 at *
  have hO := H1.out.drew
  go_region_held3 (fun w' => w'.cell? ⟨B, 0, none⟩ = some (.int .i64 c.th) ∧ w'.cell? ⟨B, 1, none⟩ = some (.int .i64 c.st) ∧ w'.cell? ⟨B, 2, none⟩ = some (.int .i64 c.ga) ∧ w'.cell? ⟨B, 3, none⟩ = some (.int .i64 c.le) ∧ w'.cell? ⟨B, 4, none⟩ = some (.int .i64 c.re) ∧ w'.cell? ⟨B, 5, none⟩ = some (.int .i64 c.ti) ∧ w'.cell? ⟨B, 6, none⟩ = some (.slice pp c.ps.length cp) ∧ w'.cell? ⟨B, 7, none⟩ = some (.slice pl c.ls.length cl)) (go_keep) (first
    | (go_at_call 33; refine (HC _).out.mono ?_; rintro e w2 ⟨rfl, hB'⟩; have hO := Own.below (by with_reducible assumption) hB'; have hB : Stp _ w2 := hB'; have d0 := Stp.cell hB d0; have d1 := Stp.cell hB d1; have d2 := Stp.cell hB d2; have d3 := Stp.cell hB d3; have d4 := Stp.cell hB d4; have d5 := Stp.cell hB d5; have d6 := Stp.cell hB d6; have d7 := Stp.cell hB d7)
    | (go_at_call 56; refine (HP _ _ (by with_reducible assumption)).out.mono ?_; rintro e w3 ⟨g, rfl, hO2⟩; obtain ⟨d0, d1, d2, d3, d4, d5, d6, d7⟩ := conf_cells hO2.swap))
  all_goals
    have HO := Lib.hid hO2.swap.drop
    clear hO2 hO d0 d1 d2 d3 d4 d5 d6 d7
    go_wp2_with fail
    go_ret
    exact ⟨g, rfl, by rw [HE.out]; exact HO.out⟩
end Go.Proofs.YtlpdafldabfiaaaGreat
end
