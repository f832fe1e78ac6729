/- Texts of elder layers, one behind the other: Slot, UseAt, UseSeq. -/
import Derived.Test.YtlpdafldabfiaaaGreatC22
import Derived.OwnWalk
import Derived.Laws.Shifts
import Derived.Lib.QuietBelow
import Derived.BigQuiet
import Derived.StillTailTactics
section
namespace Go.Proofs.YtlpdafldabfiaaaGreat
open Go.ChangeShapes Go.WideShapes Go.ChangeAt Go.RowKit
set_option linter.unusedVariables false
theorem and_low (k : Nat) (n m : Int) (hm : (BitVec.ofInt 64 m).toNat = 2 ^ k - 1) (hk : 2 ^ k ≤ 9223372036854775808) : bits .and .i64 n m = ((n % 18446744073709551616).toNat % 2 ^ k : Nat) := by
  have key : (BitVec.ofInt 64 n &&& BitVec.ofInt 64 m).toNat = (n % ((2 ^ 64 : Nat) : Int)).toNat % 2 ^ k := by
    rw [BitVec.toNat_and, BitVec.toNat_ofInt, hm, Nat.and_two_pow_sub_one_eq_mod]
  show IntKind.i64.wrap ((BitVec.ofInt 64 n &&& BitVec.ofInt 64 m).toNat : Nat) = _
  rw [key, IntKind.wrap_i64]
  have h1 : (n % 18446744073709551616).toNat % 2 ^ k < 2 ^ k := Nat.mod_lt _ (Nat.two_pow_pos k)
  have e : ((2 ^ 64 : Nat) : Int) = 18446744073709551616 := by decide
  rw [e]
  omega
theorem and21 (n : Int) : bits .and .i64 n 2097151 = n % 2097152 := by
  rw [and_low 21 n 2097151 (by decide) (by decide)]; omega
theorem isState_any (s : Int) (w : World) : Calls Tryz.prog 126 #[.int .i64 s] w fun e w' => e = .returned (.bool (tnB s)) ∧ w = w' := by
  by_cases h : 0 ≤ s ∧ s ≤ 3
  · rw [show tnB s = true from decide_eq_true h]
    obtain ⟨h0, h1⟩ := h
    go_enter Tryz.func126, Tryz.ntmps126
    go_wp2_with fail
    go_ret
    exact ⟨rfl, rfl⟩
  · rw [show tnB s = false from decide_eq_false h]
    have hc : s < 0 ∨ (0 ≤ s ∧ 3 < s) := by omega
    clear h
    rcases hc with hc | ⟨hc, hd⟩
    all_goals
      go_enter Tryz.func126, Tryz.ntmps126
      go_wp2_with fail
      go_ret
      first | exact ⟨rfl, rfl⟩ | exact ⟨congrArg (fun b => Ending.returned (.bool b)) (decide_eq_false (by omega)), rfl⟩
theorem mayBe_any (v n : Int) (w : World) : Calls Tryz.prog 125 #[.int .i64 v, .int .i64 n] w fun e w' => e = .returned (.bool (bdB v n)) ∧ w = w' := by
  by_cases h : 0 ≤ v ∧ v ≤ 11 ∧ 1 ≤ n ∧ n ≤ 1048576
  · rw [show bdB v n = true from decide_eq_true h]
    obtain ⟨h0, h1, h2, h3⟩ := h
    have g1 : v < 12 := by omega
    go_enter Tryz.func125, Tryz.ntmps125
    go_wp2_with fail
    go_ret
    exact ⟨rfl, rfl⟩
  · rw [show bdB v n = false from decide_eq_false h]
    have hc : v < 0 ∨ (0 ≤ v ∧ 12 ≤ v) ∨ (0 ≤ v ∧ v < 12 ∧ n < 1) ∨ (0 ≤ v ∧ v < 12 ∧ 1 ≤ n ∧ 1048576 < n) := by omega
    clear h
    rcases hc with hc | ⟨hc, hd⟩ | ⟨hc, hd, he⟩ | ⟨hc, hd, he, hf⟩
    all_goals
      go_enter Tryz.func125, Tryz.ntmps125
      go_wp2_with fail
      go_ret
      first | exact ⟨rfl, rfl⟩ | exact ⟨congrArg (fun b => Ending.returned (.bool b)) (decide_eq_false (by omega)), rfl⟩
theorem split21 (a : Int) (w : World) : Calls Tryz.prog 124 #[.int .i64 a, .int .i64 21] w fun e w' => e = .returned (.tuple #[.int .i64 (a / 2097152), .int .i64 (a % 2097152)]) ∧ w' = w.drew := by
  have H := Lib.hid (and21 a)
  go_enter Tryz.func124, Tryz.ntmps124
  go_wp2_with fail
  go_region
  go_wp2_with fail
  go_ret2
  exact ⟨congrArg (fun n => Ending.returned (.tuple #[.int .i64 (a / 2097152), .int .i64 n])) H.out, rfl⟩
def hnd (t v : Int) : Value := .agg #[.int .i64 t, .int .i64 v]
theorem sState_any (a : Int) (la : W64 a) (w : World) :
    Calls Tryz.prog 92 #[.int .i64 a] w fun e w' => e = .returned (.int .i64 (stS a)) ∧ Below w.heap.size w w' := by
  by_cases h : 0 ≤ pval a ∧ pval a ≤ 3
  · have hI := isState_any (pval a)
    rw [show tnB (pval a) = true from decide_eq_true h] at hI
    have HI := Lib.hid hI
    rw [show stS a = pval a from if_pos h]
    clear hI
    obtain ⟨h0, h1⟩ := h
    go_enter Tryz.func92, Tryz.ntmps92
    go_wp2_with fail
    refine (Value_any a la.1 la.2 _).mono ?_
    rintro e w' ⟨rfl, rfl⟩
    go_wp2_with fail
    refine (HI.out _).mono ?_
    rintro e w' ⟨rfl, rfl⟩
    go_wp2_with fail
    go_ret
    exact ⟨rfl, Below.refl _ _⟩
  · have hI := isState_any (pval a)
    rw [show tnB (pval a) = false from decide_eq_false h] at hI
    have HI := Lib.hid hI
    rw [show stS a = -1 from if_neg h]
    clear hI h
    go_enter Tryz.func92, Tryz.ntmps92
    go_wp2_with fail
    refine (Value_any a la.1 la.2 _).mono ?_
    rintro e w' ⟨rfl, rfl⟩
    go_wp2_with fail
    refine (HI.out _).mono ?_
    rintro e w' ⟨rfl, rfl⟩
    go_wp2_with fail
    go_ret
    exact ⟨rfl, Below.refl _ _⟩
theorem sOf_any (a : Int) (la : W64 a) (w : World) :
    Calls Tryz.prog 91 #[.int .i64 a] w fun e w' => e = .returned (.tuple #[.int .i64 (ofV a), .int .i64 (ofN a), .bool (ofB a)]) ∧ Below w.heap.size w w' := by
  have H := Lib.hid (split21 a)
  have hI := mayBe_any (a / 2097152) (a % 2097152)
  have hBB : bdB (a / 2097152) (a % 2097152) = ofB a := by unfold bdB ofB; congr 1; apply propext; constructor <;> (intro h; omega)
  by_cases h : ofB a = true
  · rw [show ofV a = a / 2097152 from if_pos h, show ofN a = a % 2097152 from if_pos h, h]
    rw [hBB, h] at hI
    have HI := Lib.hid hI
    clear h hBB hI la
    go_enter Tryz.func91, Tryz.ntmps91
    go_wp2_with fail
    refine (H.out _).mono ?_
    rintro e w' ⟨rfl, rfl⟩
    go_wp2_with fail
    refine (HI.out _).mono ?_
    rintro e w' ⟨rfl, rfl⟩
    go_wp2_with fail
    go_ret3
    exact ⟨rfl, (Below.refl _ _).drew⟩
  · have hf : ofB a = false := by simpa using h
    rw [show ofV a = 0 from if_neg h, show ofN a = 0 from if_neg h, hf]
    rw [hBB, hf] at hI
    have HI := Lib.hid hI
    clear h hf hBB hI la
    go_enter Tryz.func91, Tryz.ntmps91
    go_wp2_with fail
    refine (H.out _).mono ?_
    rintro e w' ⟨rfl, rfl⟩
    go_wp2_with fail
    refine (HI.out _).mono ?_
    rintro e w' ⟨rfl, rfl⟩
    go_wp2_with fail
    go_ret3
    exact ⟨rfl, (Below.refl _ _).drew⟩
theorem below_more {w a b : World} (h : Below w.heap.size w a) (k : Below a.heap.size a b) : Below w.heap.size w b := h.trans (k.mono h.size)
end Go.Proofs.YtlpdafldabfiaaaGreat
end
section
namespace Go.Proofs.YtlpdafldabfiaaaGreat
open Go.ChangeShapes Go.WideShapes Go.ChangeAt Go.RowKit Go.Shelf
set_option linter.unusedVariables false
set_option linter.unusedSimpArgs false
set_option maxRecDepth 100000
variable {w0 w w' : World} {F0 : Nat → Prop} {L : List Asn} {ws : List Int} {c : Cf} {pp pl : Option Addr} {cp cl : Nat} {vr vp vl : Value}
abbrev lA (c : Cf) (vp vl vr : Value) : Array Value := #[.int .i64 c.th, .int .i64 c.st, .int .i64 c.ga, .int .i64 c.le, .int .i64 c.re, .int .i64 c.ti, vp, vl, vr]
abbrev lO (c : Cf) (vp vl vr : Value) : Obj := .cells (lA c vp vl vr) 83 (0, 0)
theorem lCells {b : Nat} (h : Own w0 F0 (blk b (lO c vp vl vr) :: L) w) :
    w.cell? ⟨b, 0, none⟩ = some (.int .i64 c.th) ∧ w.cell? ⟨b, 1, none⟩ = some (.int .i64 c.st) ∧ w.cell? ⟨b, 2, none⟩ = some (.int .i64 c.ga) ∧ w.cell? ⟨b, 3, none⟩ = some (.int .i64 c.le) ∧
    w.cell? ⟨b, 4, none⟩ = some (.int .i64 c.re) ∧ w.cell? ⟨b, 5, none⟩ = some (.int .i64 c.ti) ∧ w.cell? ⟨b, 6, none⟩ = some vp ∧ w.cell? ⟨b, 7, none⟩ = some vl ∧ w.cell? ⟨b, 8, none⟩ = some vr :=
  ⟨h.cell (i := 0) rfl, h.cell (i := 1) rfl, h.cell (i := 2) rfl, h.cell (i := 3) rfl, h.cell (i := 4) rfl, h.cell (i := 5) rfl, h.cell (i := 6) rfl, h.cell (i := 7) rfl, h.cell (i := 8) rfl⟩
theorem lAt_any (i : Nat) (hi : i < ws.length) (hm : ws.length ≤ 10000) (hv : IntsAt w .i64 vr ws) :
    Calls Tryz.prog 49 #[.agg (lA c vp vl vr), .int .i64 (i : Nat)] w fun e w' => e = .returned (.int .i64 (ws.getD i 0)) ∧ Below w.heap.size w w' := by
  obtain ⟨a, off, cap, rfl, hc⟩ := hv.at (by omega)
  have ha := World.block_lt_of_cell? w _ (hc i hi)
  have h1 := (Own.start w).new (lO c vp vl (.slice (some ⟨a, off, none⟩) ws.length cap))
  obtain ⟨d0, d1, d2, d3, d4, d5, d6, d7, d8⟩ := lCells h1
  have x0 : (w.alloc (lO c vp vl (.slice (some ⟨a, off, none⟩) ws.length cap))).cell? ⟨a, off + i, none⟩ = some (.int .i64 (ws.getD i 0)) := (World.cell?_alloc_lt _ _ _ ha).trans (hc i hi)
  have HB := Lib.hid h1.toBelow
  have g1 : decide (((i : Nat) : Int) < 0) = false := by simp
  have g2 : decide ((ws.length : Int) ≤ (i : Int)) = false := by simp; omega
  have g3 : ((i : Nat) : Int) < (ws.length : Int) := by omega
  generalize ws.getD i 0 = y at *
  clear hc hv ha h1
  go_enter Tryz.func49, Tryz.ntmps49
  go_wp2_with fail
  go_ret
  exact ⟨rfl, HB.out⟩
set_option maxHeartbeats 1000000 in
theorem lTicket_any (hr : c.Rt) (hlen : ws.length = sizeN c) (hwf : ∀ k, I64 (ws.getD k 0)) (k : Nat) (hk : k < c.ti.toNat) (hv : IntsAt w .i64 vr ws) :
    Calls Tryz.prog 45 #[.agg (lA c (.slice pp c.ps.length cp) (.slice pl c.ls.length cl) vr), .int .i64 (k : Nat)] w fun e w' => e = .returned (.tuple #[.agg #[.int .i64 (livV c ws k), .int .i64 (livN c ws k)], .bool (livB c ws k)]) ∧ Below w.heap.size w w' := by
  have hti := ti_nat hr
  have hsz := sizeN_bd hr
  have hn1 := hr.n1
  have hT := fun w => Lib.hid (Ticket_q (pp := pp) (np := c.ps.length) (cp := cp) (pl := pl) (nl := c.ls.length) (cl := cl) c hr.sm hn1 (k : Int) (by omega) (by omega) w)
  have hat : lim c c.ps.length + 2 * (k : Int) = ((tkN c k : Nat) : Int) := by rw [limN_eq hr.sm]; unfold tkN; push_cast; rfl
  rw [hat] at hT
  have hl1 : tkN c k + 1 < ws.length := by rw [hlen]; unfold tkN sizeN; omega
  have hlm : ws.length ≤ 10000 := by omega
  have HA := fun (i : Nat) (hi : i < ws.length) w (hv : IntsAt w .i64 vr ws) => Lib.hid (lAt_any (c := c) (vp := .slice pp c.ps.length cp) (vl := .slice pl c.ls.length cl) i hi hlm hv)
  have h1 := ((Own.start w).new (lO c (.slice pp c.ps.length cp) (.slice pl c.ls.length cl) vr)).new (.cells #[.int .i64 0, .int .i64 0] 80)
  rw [World.size_alloc] at h1
  have hv1 := hv.below h1.toBelow
  have hW : ∀ i, W64 (ws.getD i 0) := fun i => by have := hwf i; unfold I64 at this; unfold W64; omega
  have HO := fun w => Lib.hid (sOf_any (ws.getD (tkN c k + 1) 0) (hW _) w)
  have HS := fun w => Lib.hid (sState_any (ws.getD (tkN c k) 0) (hW _) w)
  have H1 := Lib.hid h1
  have HV := Lib.hid hv1
  have hb : tkN c k + 1 < 1000 := by omega
  obtain ⟨hy1, hy2, hy3⟩ : livB c ws k = decide (stS (ws.getD (tkN c k) 0) = 2 ∧ ofB (ws.getD (tkN c k + 1) 0) = true ∧ ofV (ws.getD (tkN c k + 1) 0) < c.ps.length) ∧ livV c ws k = (if livB c ws k = true then ofV (ws.getD (tkN c k + 1) 0) else 0) ∧ livN c ws k = (if livB c ws k = true then ofN (ws.getD (tkN c k + 1) 0) else 0) := ⟨rfl, rfl, rfl⟩
  have Hy1 := Lib.hid hy1
  have Hy2 := Lib.hid hy2
  have Hy3 := Lib.hid hy3
  have g1 : decide (((k : Nat) : Int) < 0) = false := by simp
  have g2 : decide (c.ti ≤ (k : Int)) = false := by simp; omega
  generalize hyb : livB c ws k = yb at Hy1 Hy2 Hy3 ⊢
  generalize hyv : livV c ws k = yv at Hy2 ⊢
  generalize hyn : livN c ws k = yn at Hy3 ⊢
  generalize ht : tkN c k = t at *
  have HA0 := HA t (by omega)
  have HA1 := HA (t + 1) hl1
  have e1 : (((t + 1 : Nat)) : Int) = (t : Int) + 1 := by omega
  rw [e1] at HA1
  clear hyb hyv hyn ht hat hv hv1 hy1 hy2 hy3 hlen hsz hti hn1 hW hwf HA e1
  obtain ⟨d0, d1, d2, d3, d4, d5, d6, d7, d8⟩ := lCells h1.drop
  clear h1
  go_enter Tryz.func45, Tryz.ntmps45
  go_wp2_with fail
  refine (hT _).out.mono ?_
  rintro e w3 ⟨rfl, hB⟩
  have H3 := Lib.hid (H1.out.below hB)
  have HV3 := Lib.hid (HV.out.below hB)
  clear H1 HV hB hT d0 d1 d2 d3 d4 d5 d6 d7 d8
  generalize w.heap.size = C at *
  obtain ⟨d0, d1, d2, d3, d4, d5, d6, d7, d8⟩ := lCells H3.out.drop
  generalize ws.getD (t + 1) 0 = body at HA1 HO Hy1 Hy2 Hy3
  go_wp2_with fail
  refine (HA1 _ HV3.out).out.mono ?_
  rintro e w4 ⟨rfl, hB⟩
  have H4 := Lib.hid (H3.out.below hB)
  have HV4 := Lib.hid (HV3.out.below hB)
  clear H3 HV3 hB HA1 d0 d1 d2 d3 d4 d5 d6 d7 d8
  go_wp2_with fail
  refine (HO _).out.mono ?_
  rintro e w5 ⟨rfl, hB⟩
  have H5 := Lib.hid (H4.out.below hB)
  have HV5 := Lib.hid (HV4.out.below hB)
  clear H4 HV4 hB HO
  obtain ⟨d0, d1, d2, d3, d4, d5, d6, d7, d8⟩ := lCells H5.out.drop
  generalize ws.getD t 0 = word at HA0 HS Hy1
  go_wp2_with fail
  refine (HA0 _ HV5.out).out.mono ?_
  rintro e w6 ⟨rfl, hB⟩
  have H6 := Lib.hid (H5.out.below hB)
  clear H5 HV5 hB HA0 d0 d1 d2 d3 d4 d5 d6 d7 d8
  go_wp2_with fail
  refine (HS _).out.mono ?_
  rintro e w7 ⟨rfl, hB⟩
  have H7 := Lib.hid (H6.out.below hB)
  clear H6 hB HS
  obtain ⟨d0, d1, d2, d3, d4, d5, d6, d7, d8⟩ := lCells H7.out.drop
  have k0 : w7.cell? ⟨C + 1, 0, none⟩ = some (.int .i64 0) := H7.out.cell (i := 0) rfl
  have k1 : w7.cell? ⟨C + 1, 1, none⟩ = some (.int .i64 0) := H7.out.cell (i := 1) rfl
  have f0 : w7.frozen? ⟨C + 1, 0, none⟩ = false := H7.out.unfrozen
  have f1 : w7.frozen? ⟨C + 1, 1, none⟩ = false := H7.out.unfrozen
  generalize stS word = s0 at *
  generalize ofB body = b0 at *
  generalize ofV body = v0 at *
  generalize ofN body = n0 at *
  have HZ := Lib.hid (fun (x y : Int) => (H7.out.set 0 (.int .i64 x)).set 1 (.int .i64 y))
  have no : yb = false → yv = 0 ∧ yn = 0 := fun h => ⟨by rw [Hy2.out, h]; rfl, by rw [Hy3.out, h]; rfl⟩
  have NO := Lib.hid no
  clear no H7
  by_cases q1 : s0 = 2
  · subst q1
    cases b0 with
    | false =>
      obtain rfl : yb = false := by rw [Hy1.out]; exact decide_eq_false (by rintro ⟨-, h, -⟩; cases h)
      obtain ⟨rfl, rfl⟩ := NO.out rfl
      clear Hy1 Hy2 Hy3 NO
      go_wp2_with fail
      have hZ := HZ.out 0 0
      generalize World.setCell (World.setCell w7 _ _) _ _ = wz at hZ ⊢
      have r0 := hZ.cell (i := 0) rfl
      have r1 := hZ.cell (i := 1) rfl
      refine bodyPost_ret (v := .tuple #[.agg #[.int .i64 0, .int .i64 0], .bool false]) (by simp [results, Tryz.results45, go_sem, r0, r1]; try rfl) rfl ⟨rfl, hZ.toBelow⟩
    | true =>
      by_cases q2 : v0 < c.ps.length
      · obtain rfl : yb = true := by rw [Hy1.out]; exact decide_eq_true ⟨rfl, rfl, q2⟩
        obtain rfl : yv = v0 := by rw [Hy2.out, if_pos rfl]
        obtain rfl : yn = n0 := by rw [Hy3.out, if_pos rfl]
        clear Hy1 Hy2 Hy3 NO
        have q3 : decide ((c.ps.length : Int) ≤ yv) = false := by simp; omega
        have q4 : ¬ ((c.ps.length : Int) ≤ yv) := by omega
        go_wp2_with fail
        have hZ := HZ.out yv yn
        generalize World.setCell (World.setCell w7 _ _) _ _ = wz at hZ ⊢
        have r0 := hZ.cell (i := 0) rfl
        have r1 := hZ.cell (i := 1) rfl
        refine bodyPost_ret (v := .tuple #[.agg #[.int .i64 yv, .int .i64 yn], .bool true]) (by simp [results, Tryz.results45, go_sem, r0, r1]; try rfl) rfl ⟨rfl, hZ.toBelow⟩
      · obtain rfl : yb = false := by rw [Hy1.out]; exact decide_eq_false (by rintro ⟨-, -, h⟩; exact q2 h)
        obtain ⟨rfl, rfl⟩ := NO.out rfl
        clear Hy1 Hy2 Hy3 NO
        have q4 : ((c.ps.length : Int) ≤ v0) := by omega
        have q3 : decide ((c.ps.length : Int) ≤ v0) = true := by simp; omega
        go_wp2_with fail
        have hZ := HZ.out 0 0
        generalize World.setCell (World.setCell w7 _ _) _ _ = wz at hZ ⊢
        have r0 := hZ.cell (i := 0) rfl
        have r1 := hZ.cell (i := 1) rfl
        refine bodyPost_ret (v := .tuple #[.agg #[.int .i64 0, .int .i64 0], .bool false]) (by simp [results, Tryz.results45, go_sem, r0, r1]; try rfl) rfl ⟨rfl, hZ.toBelow⟩
  · obtain rfl : yb = false := by rw [Hy1.out]; exact decide_eq_false (by rintro ⟨h, -⟩; exact q1 h)
    obtain ⟨rfl, rfl⟩ := NO.out rfl
    clear Hy1 Hy2 Hy3 NO
    go_wp2_with fail
    have hZ := HZ.out 0 0
    generalize World.setCell (World.setCell w7 _ _) _ _ = wz at hZ ⊢
    have r0 := hZ.cell (i := 0) rfl
    have r1 := hZ.cell (i := 1) rfl
    refine bodyPost_ret (v := .tuple #[.agg #[.int .i64 0, .int .i64 0], .bool false]) (by simp [results, Tryz.results45, go_sem, r0, r1]; try rfl) rfl ⟨rfl, hZ.toBelow⟩
end Go.Proofs.YtlpdafldabfiaaaGreat
end
section
namespace Go.Proofs.YtlpdafldabfiaaaGreat
open Go.ChangeShapes Go.WideShapes Go.ChangeAt Go.RowKit Go.Shelf
attribute [local go_sem] Oper.semAt_some
set_option linter.unusedVariables false
set_option linter.unusedSimpArgs false
set_option maxRecDepth 100000
variable {w0 w w' : World} {F0 : Nat → Prop} {L : List Asn} {ws : List Int} {c : Cf} {pp pl : Option Addr} {cp cl : Nat} {vr vp vl : Value}
def lvL (c : Cf) (ws : List Int) : Nat → List Nat
  | 0 => []
  | k + 1 => if livB c ws k = true then lvL c ws k ++ [k] else lvL c ws k
theorem lvL_yes {k : Nat} (h : livB c ws k = true) : lvL c ws (k + 1) = lvL c ws k ++ [k] := by rw [lvL, if_pos h]
theorem lvL_no {k : Nat} (h : livB c ws k = false) : lvL c ws (k + 1) = lvL c ws k := by rw [lvL, if_neg (by rw [h]; decide)]
theorem lvL_le (k : Nat) : (lvL c ws k).length ≤ k := by
  induction k with
  | zero => simp [lvL]
  | succ k ih =>
    rw [lvL]; split
    · rw [List.length_append]; simp; omega
    · omega
theorem lvL_pre {k K : Nat} (h : k ≤ K) : ∃ t, lvL c ws K = lvL c ws k ++ t := by
  induction K with
  | zero => exact ⟨[], by rw [show k = 0 by omega]; simp⟩
  | succ K ih =>
    by_cases e : k = K + 1
    · exact ⟨[], by rw [e]; simp⟩
    · obtain ⟨t, ht⟩ := ih (by omega)
      rw [lvL]
      split
      · exact ⟨t ++ [K], by rw [ht, List.append_assoc]⟩
      · exact ⟨t, ht⟩
theorem lvL_get {k K : Nat} (hk : k < K) (h : livB c ws k = true) : (lvL c ws k).length < (lvL c ws K).length ∧ (lvL c ws K).getD (lvL c ws k).length 0 = k := by
  obtain ⟨t, ht⟩ := lvL_pre (c := c) (ws := ws) (show k + 1 ≤ K by omega)
  rw [lvL_yes h] at ht
  rw [ht]
  refine ⟨by simp, ?_⟩
  simp [List.getD]
theorem lvL_liv (K : Nat) : ∀ j ∈ lvL c ws K, livB c ws j = true ∧ j < K := by
  induction K with
  | zero => simp [lvL]
  | succ K ih =>
    intro j hj
    rw [lvL] at hj
    split at hj
    · rename_i h
      rcases List.mem_append.1 hj with h1 | h1
      · have := ih j h1; exact ⟨this.1, by omega⟩
      · simp at h1; subst h1; exact ⟨h, by omega⟩
    · have := ih j hj; exact ⟨this.1, by omega⟩
theorem lvL_at {K i : Nat} (h : i < (lvL c ws K).length) : livB c ws ((lvL c ws K).getD i 0) = true ∧ (lvL c ws K).getD i 0 < K := by
  refine lvL_liv K _ ?_
  rw [List.getD_eq_getElem?_getD, List.getElem?_eq_getElem h]
  exact List.getElem_mem h
theorem totL_app (g : Nat → Int) : ∀ a b : List Nat, totL g (a ++ b) = totL g a + totL g b
  | [], b => by simp [totL]
  | x :: a, b => by rw [List.cons_append, totL, totL, totL_app g a b]; omega
theorem totL_lvL (u : Nat) : ∀ K, totL (usT c ws u) (lvL c ws K) = sK (usT c ws u) K
  | 0 => rfl
  | K + 1 => by
    rw [lvL, sK]
    by_cases h : livB c ws K = true
    · rw [if_pos h, totL_app, totL_lvL u K]; simp [totL]
    · rw [if_neg h, totL_lvL u K]
      have : usT c ws u K = 0 := by unfold usT; exact if_neg (fun q => h q.1)
      omega
theorem totL_take (g : Nat → Int) {xs : List Nat} {i : Nat} (h : i < xs.length) : totL g (xs.take (i + 1)) = totL g (xs.take i) + g (xs.getD i 0) := by
  rw [List.take_succ_eq_append_getElem h, totL_app]
  simp [totL, List.getD, List.getElem?_eq_getElem h]
theorem totL_bd (u : Nat) : ∀ xs : List Nat, 0 ≤ totL (usT c ws u) xs ∧ totL (usT c ws u) xs ≤ 1048576 * xs.length
  | [] => by simp [totL]
  | x :: xs => by
    have := totL_bd u xs
    have := usT_bd c ws u x
    have := livN_bd c ws x
    rw [totL, List.length_cons]; omega
abbrev lvE (c : Cf) (ws : List Int) (K i : Nat) : Array Value := #[.agg #[.int .i64 (livV c ws ((lvL c ws K).getD i 0)), .int .i64 (livN c ws ((lvL c ws K).getD i 0))]]
theorem lLive_any (a : Array Value) (ha : a = lA c vp vl vr) (w : World) :
    Calls Tryz.prog 94 #[.agg (lA c vp vl vr)] w fun e w' =>
      e = .returned (.func (Fn.func 127) #[] #[.pointer (some ⟨w.heap.size, 0, none⟩)]) ∧ w' = w.alloc (lO c vp vl vr) := by
  clear ha
  go_enter Tryz.func94, Tryz.ntmps94
  go_wp2
  go_ret
  exact ⟨rfl, rfl⟩
theorem live_enters : ∀ args w, (callFunc 127 args).run Tryz.prog w = .ok (.enter 127 args) w := enters_of Tryz.func127 (by kernel_rfl) rfl
theorem wide_deep14 {n : Nat} : Fence.wide.depth.isSome = true → 1 ≤ n := fun h => by simp [Fence.wide] at h
set_option maxHeartbeats 1000000 in
theorem live_seq (n : Nat) (hr : c.Rt) (hlen : ws.length = sizeN c) (hwf : ∀ k, I64 (ws.getD k 0)) (bl : Nat) (hv : ∀ w, Own w0 F0 L w → IntsAt w .i64 vr ws) :
    SeqSep Fence.wide n Tryz.prog 127 #[.pointer (some ⟨bl, 0, none⟩)] (lvE c ws c.ti.toNat) (lvL c ws c.ti.toNat).length
      (blk bl (lO c (.slice pp c.ps.length cp) (.slice pl c.ls.length cl) vr)) w0 F0 L := by
  intro l J Jx W hY h0
  have hti := ti_nat hr
  have HY : ∀ (i : Nat) (x y : Int) (w1 : World), i < (lvL c ws c.ti.toNat).length → livV c ws ((lvL c ws c.ti.toNat).getD i 0) = x → livN c ws ((lvL c ws c.ti.toNat).getD i 0) = y → Own w0 F0 (blk bl (lO c (.slice pp c.ps.length cp) (.slice pl c.ls.length cl) vr) :: J i :: L) w1 → YieldAt Fence.wide (n - 1) Tryz.prog l #[.agg #[.int .i64 x, .int .i64 y]] w1 fun e W' =>
      ∃ bb : Bool, e = .returned (.bool bb) ∧ Own w0 F0 (blk bl (lO c (.slice pp c.ps.length cp) (.slice pl c.ls.length cl) vr) :: (if bb = true then J (i + 1) else Jx (i + 1)) :: L) W' := fun i x y w1 hi hx hy0 h => by
    subst hx hy0
    obtain ⟨fn, tmps, assign, body, hy, hR⟩ := hY i _ w1 hi h
    refine ⟨fn, tmps, assign, body, hy, hR.mono ?_⟩
    rintro e w' (⟨rfl, hO⟩ | ⟨rfl, hO⟩)
    · exact ⟨true, rfl, hO⟩
    · exact ⟨false, rfl, hO⟩
  have HY := Lib.hid HY
  have H0 := Lib.hid h0
  have HT := fun (k : Nat) (hk : k < c.ti.toNat) w (hv : IntsAt w .i64 vr ws) => Lib.hid (callsIn_wide (n := n - 1).2 (lTicket_any (pp := pp) (cp := cp) (pl := pl) (cl := cl) hr hlen hwf k hk hv))
  have HV := Lib.hid hv
  have HG := Lib.hid (fun k hk h => lvL_get (c := c) (ws := ws) (k := k) (K := c.ti.toNat) hk h)
  have HN := Lib.hid (fun k => lvL_no (c := c) (ws := ws) (k := k))
  have HYs := Lib.hid (fun k h => congrArg List.length (lvL_yes (c := c) (ws := ws) (k := k) h))
  have e0 : (lvL c ws 0).length = 0 := rfl
  have He0 := Lib.hid e0
  have d5 : W.cell? ⟨bl, 5, none⟩ = some (.int .i64 c.ti) := h0.cell (i := 5) rfl
  obtain ⟨K, hK⟩ : ∃ K, K = c.ti.toNat := ⟨_, rfl⟩
  have hcti : c.ti = (K : Int) := by omega
  have hK16 : K ≤ 16 := by omega
  rw [← hK] at HT HG HY ⊢
  clear hY h0 hlen hwf hv hr hti hK e0
  have HTI := Lib.hid hcti
  rw [hcti] at d5
  clear hcti
  refine callsIn_of_wp Tryz.func127 rfl trivial ?_ rfl
  simp only [Tryz.ntmps127, List.size_toArray, List.length_cons, List.length_nil, Nat.reduceAdd, Nat.reduceSub, Array.replicate_succ, Array.replicate_zero, List.push_toArray, List.append_toArray, List.nil_append, List.cons_append]
  have m1 : (K : Int) ≤ 16 := by omega
  have m2 : ¬ (16 : Int) < (K : Int) := by omega
  have m3 : decide ((16 : Int) < (K : Int)) = false := by simp; omega
  have m4 : decide ((K : Int) ≤ 16) = true := by simp; omega
  gi_wp2_with fail
  gi_loopw [10] (fun v10 wr => ∃ k : Nat, k ≤ K ∧ v10 = .int .i64 k ∧ Own w0 F0 (blk bl (lO c (.slice pp c.ps.length cp) (.slice pl c.ls.length cl) vr) :: J (lvL c ws k).length :: L) wr) (fun v10 wr => K - (intOf v10).toNat)
  case atStart => exact ⟨0, Nat.zero_le _, rfl, by rw [He0.out]; exact H0.out⟩
  case round =>
    clear d5 H0
    obtain ⟨k, hk, rfl, hO⟩ := hrel
    by_cases hlt : k < K
    · obtain ⟨d0, d1, d2, d3, d4, d5, d6, d7, d8⟩ := lCells hO
      have HT1 := HT k hlt _ (HV.out _ hO.drop.drop)
      have HO := Lib.hid hO
      clear hO HT
      have g1 : (k : Int) < (K : Int) := by omega
      generalize hyb : livB c ws k = yb at HT1
      cases yb with
      | false =>
        have HN1 := Lib.hid (HN.out k hyb)
        clear hyb HN HG HYs HY
        gi_wp2_with fail
        refine ⟨trivial, wide_deep14, HT1.out.mono ?_⟩
        rintro e w1 ⟨rfl, hB⟩
        have hO1 := HO.out.below hB
        have HO2 := Lib.hid (hO1.alloc (.cells #[.int .i64 (livV c ws k), .int .i64 (livN c ws k)] 80))
        clear HO hB hO1 HT1 d0 d1 d2 d3 d4 d5 d6 d7 d8
        gi_wp2_with fail
        refine ⟨fun _ h => (by cases h), ?_⟩
        gi_wp2_with fail
        go_roundw
        case rel => exact ⟨k + 1, by omega, by go_num, by rw [HN1.out]; exact HO2.out⟩
        case measure => simp [intOf]; omega
      | true =>
        have HN1 := Lib.hid (HYs.out k hyb)
        obtain ⟨hg1, hg2⟩ := HG.out k hlt hyb
        have HY1 := fun w h => HY.out _ (livV c ws k) (livN c ws k) w hg1 (by rw [hg2]) (by rw [hg2]) h
        have HG1 := Lib.hid hg1
        clear hyb HN HG HYs HY hg1 hg2
        generalize livV c ws k = xv at *
        generalize livN c ws k = xn at *
        gi_wp2_with fail
        refine ⟨trivial, wide_deep14, HT1.out.mono ?_⟩
        rintro e w1 ⟨rfl, hB⟩
        have hO1 := HO.out.below hB
        obtain ⟨fn, tm, as_, bo, hy, hR⟩ := HY1 _ (hO1.alloc (.cells #[.int .i64 xv, .int .i64 xn] 80))
        have HR := Lib.hid hR
        clear HO hB hO1 HT1 hR HY1 d0 d1 d2 d3 d4 d5 d6 d7 d8
        gi_wp2_with fail
        refine ⟨wide_deep14, HR.out.mono ?_⟩
        rintro e w2 ⟨bb, rfl, hO2⟩
        cases bb with
        | true =>
          have HO4 := Lib.hid (show Own w0 F0 (blk bl (lO c (.slice pp c.ps.length cp) (.slice pl c.ls.length cl) vr) :: J ((lvL c ws k).length + 1) :: L) _ from hO2)
          clear hO2 HR
          gi_wp2_with fail
          go_roundw
          case rel => exact ⟨k + 1, by omega, by go_num, by rw [HN1.out, List.length_append]; exact HO4.out⟩
          case measure => simp [intOf]; omega
        | false =>
          have HO4 := Lib.hid (show Own w0 F0 (blk bl (lO c (.slice pp c.ps.length cp) (.slice pl c.ls.length cl) vr) :: Jx ((lvL c ws k).length + 1) :: L) _ from hO2)
          clear hO2 HR
          gi_wp2_with fail
          refine bodyPost_ret (results_none rfl _ _ _) rfl ?_
          exact ⟨⟨_, rfl⟩, .inr ⟨_, HG1.out, HO4.out.drop⟩⟩
    · obtain rfl : k = K := by omega
      have HO := Lib.hid hO
      clear hO
      gi_wp2_with fail
      go_end0
      exact ⟨⟨_, rfl⟩, .inl HO.out.drop⟩
end Go.Proofs.YtlpdafldabfiaaaGreat
end
