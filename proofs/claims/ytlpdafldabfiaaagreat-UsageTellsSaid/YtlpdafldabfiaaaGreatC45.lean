/- Texts of elder layers, one behind the other: SnapRef, SnapRef2, SnapRef3, SnapPlay, SnapTells0. -/
import Derived.Test.YtlpdafldabfiaaaGreatC43
import Derived.Deep.Upon
import Derived.BigQuiet
import Derived.Deep.QuietTactic
import Derived.StillTailTactics
section
namespace Go.Proofs.YtlpdafldabfiaaaGreat
open Go.ChangeShapes Go.WideShapes Go.ChangeAt Go.RowKit Go.Shelf
set_option linter.unusedVariables false
set_option linter.unusedSimpArgs false
set_option maxRecDepth 100000
variable {w0 w w' : World} {F0 : Nat → Prop} {L : List Asn} {T : TypeId} {m : Nat} {ws : List Int} {lg : List Acc}
def r7O (b S left : Int) (gl : Bool) (vg : Value) (n : Int) (x fin : Bool) : Obj := .cells #[.int .i64 b, .int .i64 S, .int .i64 left, .bool gl, vg, .int .i64 0, .int .i64 n, .bool x, .int .i64 0, .bool fin] 92 (0, 0)
theorem r7Cells {k : Nat} {b S left n : Int} {gl x fin : Bool} {vg : Value} (h : Own w0 F0 (blk k (r7O b S left gl vg n x fin) :: L) w) :
    w.cell? ⟨k, 0, none⟩ = some (.int .i64 b) ∧ w.cell? ⟨k, 1, none⟩ = some (.int .i64 S) ∧ w.cell? ⟨k, 2, none⟩ = some (.int .i64 left) ∧ w.cell? ⟨k, 3, none⟩ = some (.bool gl) ∧ w.cell? ⟨k, 4, none⟩ = some vg ∧ w.cell? ⟨k, 5, none⟩ = some (.int .i64 0) ∧ w.cell? ⟨k, 6, none⟩ = some (.int .i64 n) ∧ w.cell? ⟨k, 7, none⟩ = some (.bool x) ∧ w.cell? ⟨k, 8, none⟩ = some (.int .i64 0) ∧ w.cell? ⟨k, 9, none⟩ = some (.bool fin) ∧ ∀ j, w.frozen? ⟨k, j, none⟩ = false :=
  ⟨h.cell (i := 0) rfl, h.cell (i := 1) rfl, h.cell (i := 2) rfl, h.cell (i := 3) rfl, h.cell (i := 4) rfl, h.cell (i := 5) rfl, h.cell (i := 6) rfl, h.cell (i := 7) rfl, h.cell (i := 8) rfl, h.cell (i := 9) rfl, fun j => h.unfrozen⟩
section
variable {k : Nat} {b S left n : Int} {gl x fin : Bool} {vg : Value} (h : Own w0 F0 (blk k (r7O b S left gl vg n x fin) :: L) w)
include h
theorem r7Set2 (z : Int) : Own w0 F0 (blk k (r7O b S z gl vg n x fin) :: L) (w.setCell ⟨k, 2, none⟩ (.int .i64 z)) := Own.set h 2 _
theorem r7Set4 (z : Value) : Own w0 F0 (blk k (r7O b S left gl z n x fin) :: L) (w.setCell ⟨k, 4, none⟩ z) := Own.set h 4 _
theorem r7Set5 : Own w0 F0 (blk k (r7O b S left gl vg n x fin) :: L) (w.setCell ⟨k, 5, none⟩ (.int .i64 0)) := Own.set h 5 _
theorem r7Set6 (z : Int) : Own w0 F0 (blk k (r7O b S left gl vg z x fin) :: L) (w.setCell ⟨k, 6, none⟩ (.int .i64 z)) := Own.set h 6 _
theorem r7Set7 (z : Bool) : Own w0 F0 (blk k (r7O b S left gl vg n z fin) :: L) (w.setCell ⟨k, 7, none⟩ (.bool z)) := Own.set h 7 _
theorem r7Set8 : Own w0 F0 (blk k (r7O b S left gl vg n x fin) :: L) (w.setCell ⟨k, 8, none⟩ (.int .i64 0)) := Own.set h 8 _
theorem r7Set9 (z : Bool) : Own w0 F0 (blk k (r7O b S left gl vg n x z) :: L) (w.setCell ⟨k, 9, none⟩ (.bool z)) := Own.set h 9 _
end
theorem r7Ans {k : Nat} {b S left n : Int} {gl x fin : Bool} {vg : Value} (h : Own w0 F0 (blk k (r7O b S left gl vg n x fin) :: L) w) (y : Int) (z : Bool) :
    Own w0 F0 (blk k (r7O b S left gl vg y z fin) :: L) ((((w.setCell ⟨k, 5, none⟩ (.int .i64 0)).setCell ⟨k, 6, none⟩ (.int .i64 y)).setCell ⟨k, 7, none⟩ (.bool z)).setCell ⟨k, 8, none⟩ (.int .i64 0)) := r7Set8 (r7Set7 (r7Set6 (r7Set5 h) y) z)
theorem r7word_any {k : Nat} (b S j : Nat) (hb : b ≤ 1000) (hS : S ≤ 8) (hj : j < 4 + 2 * S) (c0 : w.cell? ⟨k, 0, none⟩ = some (.int .i64 b)) (c1 : w.cell? ⟨k, 1, none⟩ = some (.int .i64 S)) :
    Calls Tryz.prog 106 #[.pointer (some ⟨k, 0, none⟩), .int .i64 j] w fun e w' => e = .returned (.int .i64 (wd b S j)) ∧ Drew w w' := by
  by_cases h0 : j = 0
  · subst h0
    have e : (wd b S 0 : Int) = (b : Int) + 1 := by unfold wd; rw [if_pos (Or.inl rfl)]; omega
    rw [e]
    go_enter Tryz.func106, Tryz.ntmps106
    go_wp2_with fail
    go_ret
    exact ⟨rfl, Drew.refl _⟩
  · have f0 : ((j : Int) == 0) = false := by rw [beq_eq_false_iff_ne]; omega
    have f0d : decide ((j : Int) = 0) = false := by simp; omega
    by_cases h3 : j = 3 + S
    · have f3 : ((j : Int) == 3 + (S : Int)) = true := by rw [beq_iff_eq]; omega
      have e : (wd b S j : Int) = (b : Int) + 1 := by rw [h3, wd_f]; omega
      rw [e]
      clear e h3 hj
      go_enter Tryz.func106, Tryz.ntmps106
      go_wp2_with fail
      go_ret
      exact ⟨rfl, Drew.refl _⟩
    · have f3 : ((j : Int) == 3 + (S : Int)) = false := by rw [beq_eq_false_iff_ne]; omega
      by_cases h1 : j = 1
      · subst h1
        have e : (wd b S 1 : Int) = (b : Int) + 2 := by unfold wd; rw [if_neg (by omega), if_pos rfl]; omega
        rw [e]
        clear e h3 hj
        go_enter Tryz.func106, Tryz.ntmps106
        go_wp2_with fail
        go_ret
        exact ⟨rfl, Drew.refl _⟩
      · have f1 : ((j : Int) == 1) = false := by rw [beq_eq_false_iff_ne]; omega
        by_cases h2 : j = 2
        · subst h2
          have e : (wd b S 2 : Int) = (b : Int) := by unfold wd; rw [if_neg (by omega), if_neg (by omega), if_pos rfl]
          rw [e]
          clear e h3 hj
          go_enter Tryz.func106, Tryz.ntmps106
          go_wp2_with fail
          go_ret
          exact ⟨rfl, Drew.refl _⟩
        · have f2 : ((j : Int) == 2) = false := by rw [beq_eq_false_iff_ne]; omega
          by_cases hl : j < 3 + S
          · have g1 : decide ((j : Int) < 3 + (S : Int)) = true := by simp; omega
            have e : (wd b S j : Int) = (b : Int) + 4 + j - 3 := by unfold wd; rw [if_neg (by omega), if_neg (by omega), if_neg (by omega), if_pos hl]; omega
            rw [e]
            clear e h3 h1 h2 h0
            go_enter Tryz.func106, Tryz.ntmps106
            go_wp2_with fail
            go_ret
            exact ⟨rfl, Drew.refl _⟩
          · have g1 : decide ((j : Int) < 3 + (S : Int)) = false := by simp; omega
            have e : (wd b S j : Int) = (b : Int) + 4 + j - 4 - S := by unfold wd; rw [if_neg (by omega), if_neg (by omega), if_neg (by omega), if_neg hl]; omega
            rw [e]
            clear e h3 h1 h2 h0 hl
            go_enter Tryz.func106, Tryz.ntmps106
            go_wp2_with fail
            go_quiet (fail)
            go_wp2_with fail
            go_ret
            exact ⟨rfl, ⟨nq, rfl⟩⟩
theorem row_at7 {gf n cap : Nat} {zs : List Int} (h : Own w0 F0 (row (.slice (some ⟨gf, 0, none⟩) n cap) 3 1 n (intC zs) :: L) w) (hz : zs.length = n) (j : Nat) (hj : j < n) : w.cell? ⟨gf, j, none⟩ = some (.int .i64 (zs.getD j 0)) := by
  have := (h.isRow).cells (g := gf) rfl j _ (intC_get zs j (by omega))
  rwa [add_plain, Nat.zero_add] at this
def okP (S : Nat) (l : List Int) (i : Nat) : Bool := (l.getD 0 0 == l.getD 1 0) && (l.getD 0 0 == l.getD (3 + S) 0) && (List.range i).all fun j => l.getD (3 + j) 0 == l.getD (4 + S + j) 0
theorem okP_succ (S : Nat) (l : List Int) (i : Nat) : okP S l (i + 1) = (okP S l i && (l.getD (3 + i) 0 == l.getD (4 + S + i) 0)) := by
  unfold okP
  rw [List.range_succ, List.all_append]
  simp [Bool.and_assoc]
theorem okP_zero (S : Nat) (l : List Int) : okP S l 0 = ((l.getD 0 0 == l.getD 1 0) && (l.getD 0 0 == l.getD (3 + S) 0)) := by simp [okP]
def sumP (l : List Int) (i : Nat) : Int := l.getD 2 0 + valN l i
theorem sumP_succ (l : List Int) (i : Nat) : sumP l i + pval (l.getD (3 + i) 0) = sumP l (i + 1) := by unfold sumP valN; rw [sN]; omega
set_option maxHeartbeats 2000000 in
theorem r7closed_any {k : Nat} (b S : Nat) (s : SS) (l : List Int) {vg : Value} (hS : 1 ≤ S) (h8 : S ≤ 8) (hl : l.length = 4 + 2 * S) (hI : ∀ i, I64 (l.getD i 0)) (h1 : 1 ≤ s.left) (h2 : s.left ≤ 8) (hf : s.fin = false)
    (h : Own w0 F0 (blk k (r7O b S s.left false vg s.n s.ex false) :: row vg 3 1 (4 + 2 * S) (intC l) :: L) w) :
    Calls Tryz.prog 107 #[.pointer (some ⟨k, 0, none⟩)] w fun e w' => e = .returned (.tuple #[]) ∧
      Own w0 F0 (blk k (r7O b S (closeS S s l).left false (.slice none 0 0) (closeS S s l).n (closeS S s l).ex (closeS S s l).fin) :: L) w' := by
  obtain ⟨gf, cap, cur, rfl, hc1, hc2, hc3, hc4, hc5, hc6⟩ := h.swap.rowBlk (by omega)
  clear hc1 hc2 hc3 hc4 hc5 hc6
  have hc : ∀ j, j < 4 + 2 * S → w.cell? ⟨gf, j, none⟩ = some (.int .i64 (l.getD j 0)) := fun j hj => row_at7 h.swap hl j hj
  obtain ⟨c0, c1, c2, c3, c4, c5, c6, c7, c8, c9, cf⟩ := r7Cells h
  have hne : gf ≠ k := fun e => h.neRow (by simp [Value.ownBlock, e])
  have hne2 := hne.symm
  have HV := fun (y : Int) (hy : I64 y) w => Lib.hid (rValue_any y hy.1 hy.2 w)
  have x0 := hc 0 (by omega)
  have x1 := hc 1 (by omega)
  have x2 := hc 2 (by omega)
  have x3 := hc (3 + S) (by omega)
  have HX2 := Lib.hid (fun w' (hd : Drew w w') => hd.cell x2)
  have Hc := Lib.hid hc
  have HI := Lib.hid hI
  have HO := Lib.hid h
  have HPs := Lib.hid (okP_succ S l)
  have HSs := Lib.hid (sumP_succ l)
  have HP0 := Lib.hid (okP_zero S l)
  have HS0 := Lib.hid (show l.getD 2 0 = wrap64 (sumP l 0) by unfold sumP valN; rw [sN, Int.add_zero]; exact (wrap64_id _ (hI 2)).symm)
  have HE : Hid (closeS S s l = if okP S l S = true then ⟨[], s.left - 1, true, wrap64 (sumP l S), true⟩ else if s.left = 1 then ⟨[], 0, true, l.getD 2 0, false⟩ else ⟨[], s.left - 1, false, s.n, s.ex⟩) := rfl
  obtain ⟨N, hN⟩ : ∃ N, N = 4 + 2 * S := ⟨_, rfl⟩
  rw [← hN] at HO c4
  have i0 : 0 < N := by omega
  have i1 : 1 < N := by omega
  have i2 : 2 < N := by omega
  have i3 : (3 : Int) + (S : Int) < N := by omega
  have i4 : (0 : Int) ≤ 3 + (S : Int) := by omega
  have i5 : ((3 : Int) + (S : Int)).toNat = 3 + S := by omega
  clear h hc hI hl
  generalize closeS S s l = R at *
  generalize hy0 : l.getD 0 0 = y0 at *
  generalize hy1 : l.getD 1 0 = y1 at *
  generalize hy2 : l.getD 2 0 = y2 at *
  generalize hy3 : l.getD (3 + S) 0 = y3 at *
  clear hy0 hy1 hy2 hy3
  obtain ⟨p, hp⟩ : ∃ p : Bool, p = ((y0 == y1) && (y0 == y3)) := ⟨_, rfl⟩
  have hp0 := HP0.out
  rw [← hp] at hp0
  have HPp := Lib.hid hp0
  clear hp0 HP0
  cases hA : (y0 == y1) <;> cases hB : (y0 == y3)
  all_goals
    rw [hA, hB] at hp
    simp only [Bool.and_true, Bool.and_false, Bool.false_and] at hp
    subst hp
    go_enter Tryz.func107, Tryz.ntmps107
    go_wp2_with fail
    go_quiet (fail)
    have HD := Lib.hid (show Drew w (World.drewN w nq) from ⟨nq, rfl⟩)
    have k2 := HD.out.cell x2
    generalize World.drewN w nq = w2 at HD k2 ⊢
    clear c0 c1 c2 c3 c4 c5 c6 c7 c8 c9 cf x0 x1 x2 x3
    go_wp2_with fail
    go_loopw [3, 4, 5] (fun v3 v4 v5 wr => ∃ i : Nat, i ≤ S ∧ v3 = .bool (okP S l i) ∧ v4 = .int .i64 (wrap64 (sumP l i)) ∧ v5 = .int .i64 i ∧ Drew w wr) (fun v3 v4 v5 _ => S - (intOf v5).toNat)
    case atStart => exact ⟨0, Nat.zero_le _, by rw [HPp.out], by rw [← HS0.out], rfl, HD.out⟩
    case round =>
      clear HS0 HPp HD k2
      obtain ⟨i, hi, rfl, rfl, rfl, hD⟩ := hrel
      have hO := HO.out.below hD.below
      obtain ⟨c0, c1, c2, c3, c4, c5, c6, c7, c8, c9, cf⟩ := r7Cells hO
      by_cases hlt : i < S
      · have a3 := hD.cell (Hc.out (3 + i) (by omega))
        have a4 := hD.cell (Hc.out (4 + S + i) (by omega))
        have HV1 := HV _ (HI.out (3 + i))
        have HSx := Lib.hid (HSs.out i)
        have HPx := Lib.hid (HPs.out i)
        have pb := pval_bd (l.getD (3 + i) 0)
        have j3 : ((3 : Int) + (i : Int)).toNat = 3 + i := by omega
        have j4 : ((4 : Int) + (S : Int) + (i : Int)).toNat = 4 + S + i := by omega
        have j5 : (3 : Int) + (i : Int) < N := by omega
        have j6 : (4 : Int) + (S : Int) + (i : Int) < N := by omega
        have j7 : (0 : Int) ≤ 3 + (i : Int) := by omega
        have j8 : (0 : Int) ≤ 4 + (S : Int) + (i : Int) := by omega
        have HD := Lib.hid hD
        have hsw := swrap (sumP l i) (pval (l.getD (3 + i) 0))
        rw [HSx.out] at hsw
        generalize l.getD (3 + i) 0 = z at *
        generalize l.getD (4 + S + i) 0 = u at *
        have Hsw := Lib.hid hsw
        clear hsw
        generalize sumP l i = s0 at *
        generalize okP S l i = p at *
        clear hO hD HSx
        cases p
        · have hp1 := HPx.out
          simp only [Bool.false_and] at hp1
          have HP1 := Lib.hid hp1
          clear hp1
          go_wp2_with fail
          go_quiet (fail)
          have HD2 := Lib.hid (HD.out.more nq)
          have a3' : (World.drewN wr nq).cell? ⟨gf, 3 + i, none⟩ = some (.int .i64 z) := a3
          clear a3 a4 c0 c1 c2 c3 c4 c5 c6 c7 c8 c9 cf HD
          generalize World.drewN wr nq = w3 at HD2 a3' ⊢
          go_wp2_with fail
          refine (HV1 _).out.mono ?_
          rintro e w4 ⟨rfl, rfl⟩
          generalize pval z = pz at *
          go_wp2_with fail
          go_roundw
          case rel => exact ⟨i + 1, by omega, by rw [HP1.out], by rw [Hsw.out], by go_num, HD2.out⟩
          case measure => simp [intOf]; omega
        · cases hzu : (z == u)
          all_goals
            have hp1 := HPx.out
            rw [hzu] at hp1
            simp only [Bool.true_and] at hp1
            have HP1 := Lib.hid hp1
            clear hp1
            go_wp2_with fail
            go_quiet (fail)
            have HD2 := Lib.hid (HD.out.more nq)
            have a3' : (World.drewN wr nq).cell? ⟨gf, 3 + i, none⟩ = some (.int .i64 z) := a3
            clear a3 a4 c0 c1 c2 c3 c4 c5 c6 c7 c8 c9 cf HD
            generalize World.drewN wr nq = w3 at HD2 a3' ⊢
            go_wp2_with fail
            refine (HV1 _).out.mono ?_
            rintro e w4 ⟨rfl, rfl⟩
            generalize pval z = pz at *
            go_wp2_with fail
            go_roundw
            case rel => exact ⟨i + 1, by omega, by rw [HP1.out], by rw [Hsw.out], by go_num, HD2.out⟩
            case measure => simp [intOf]; omega
      · obtain rfl : i = S := by omega
        have b2 := HX2.out _ hD
        have he := HE.out
        have HO2 := Lib.hid (hO.under fun _ _ h => h.drop)
        generalize sumP l i = sm at *
        clear hO hD HI Hc HPs HSs
        cases hok : okP i l i
        · rw [hok] at he
          rw [if_neg (by decide)] at he
          by_cases hl1 : s.left = 1
          · rw [if_pos hl1] at he
            subst he
            rw [hl1] at c2 HO2
            have HF := Lib.hid (r7Set9 (r7Ans (r7Set4 (r7Set2 HO2.out 0) (.slice none 0 0)) y2 false) true)
            clear HO2 HE
            go_wp2_with fail
            go_end0
            exact ⟨rfl, HF.out⟩
          · rw [if_neg hl1] at he
            subst he
            have g0 : ((s.left : Int) - 1 == 0) = false := by rw [beq_eq_false_iff_ne]; omega
            have e3 : ((s.left : Int) - 1) = ((s.left - 1 : Nat) : Int) := by omega
            have HF := r7Set4 (r7Set2 HO2.out ((s.left : Int) - 1)) (.slice none 0 0)
            have HF2 := Lib.hid (e3 ▸ HF : _)
            have HFx := Lib.hid HF
            have E3 := Lib.hid e3
            clear HO2 HE HF e3
            go_wp2_with fail
            go_end0
            refine ⟨rfl, ?_⟩
            have h := HFx.out
            simp only [← E3.out]
            exact h
        · rw [hok] at he
          rw [if_pos rfl] at he
          subst he
          have e3 : ((s.left : Int) - 1) = ((s.left - 1 : Nat) : Int) := by omega
          have HF := Lib.hid (r7Set9 (r7Ans (r7Set4 (r7Set2 HO2.out ((s.left : Int) - 1)) (.slice none 0 0)) (wrap64 sm) true) true)
          have E3 := Lib.hid e3
          clear HO2 HE e3
          go_wp2_with fail
          go_end0
          refine ⟨rfl, ?_⟩
          have h := HF.out
          simp only [← E3.out]
          exact h
end Go.Proofs.YtlpdafldabfiaaaGreat
end
section
namespace Go.Proofs.YtlpdafldabfiaaaGreat
open Go.ChangeShapes Go.WideShapes Go.ChangeAt Go.RowKit Go.Shelf
set_option linter.unusedVariables false
set_option linter.unusedSimpArgs false
set_option maxRecDepth 100000
variable {w0 w w' : World} {F0 : Nat → Prop} {L : List Asn} {T : TypeId} {m : Nat} {ws : List Int} {lg : List Acc}
theorem wpList_append_nil {P : Program} {ops : Array Oper} {rest : List Oper} {o : Oper} {a : Act} {Q : Exit → Act → World → Prop} (hgd : o.guard = none) (s x : Operand) (t : TypeId)
    (ho : o.op = .call { callee := .builtin .append, args := #[s, x], argTypes := #[t, t] }) (e : TypeId) (i : TypeInfo) (ht : P.underlying t = some (.slice e)) (hi : P.info? e = some i)
    {base : Option Addr} {n c : Nat} (hle : n ≤ c) (hs : a.eval s = .slice base n c) (hx : a.eval x = .slice none 0 0)
    (hK : wpList P ops Q rest (a.put o.dst (.slice base n c)) w) : wpList P ops Q (o :: rest) a w :=
  wpList_plain hgd fun _ hK' => by
    have hr := run_append_nothing (P := P) w t t o.type e i ht hi base n c hle (.slice none 0 0) (Src.ofNil w ht 0)
    unfold Oper.wp execOp
    simp only [ho, resolve, invoke, builtin, Sem.run_bind, Sem.run_pure, Result.andThen_ok, List.map_toArray, List.map_cons, List.map_nil, hs, hx, hr]
    exact hK' _ _ hK
def rgA (k b S : Nat) (s : SS) : Asn := if s.got = [] then blk k (r7O b S s.left false (.slice none 0 0) s.n s.ex s.fin) else ex fun v : Value => stars [blk k (r7O b S s.left false v s.n s.ex s.fin), row v 3 1 s.got.length (intC s.got)]
theorem closeS_got (S : Nat) (s : SS) (l : List Int) : (closeS S s l).got = [] := by
  unfold closeS; split
  · rfl
  · split <;> rfl
theorem rg_nil {k b S : Nat} {s : SS} (h : s.got = []) : rgA k b S s = blk k (r7O b S s.left false (.slice none 0 0) s.n s.ex s.fin) := if_pos h
theorem rg_put {k b S : Nat} {s : SS} {v : Value} (h : s.got ≠ []) (hO : Own w0 F0 (blk k (r7O b S s.left false v s.n s.ex s.fin) :: row v 3 1 s.got.length (intC s.got) :: L) w) : Own w0 F0 (rgA k b S s :: L) w := by
  unfold rgA; rw [if_neg h]
  exact Own.exI (A := fun v : Value => stars [blk k (r7O b S s.left false v s.n s.ex s.fin), row v 3 1 s.got.length (intC s.got)]) v (Own.shut (K := [_, _]) hO)
theorem rg_get {k b S : Nat} {s : SS} (h : s.got ≠ []) (hO : Own w0 F0 (rgA k b S s :: L) w) : ∃ v, Own w0 F0 (blk k (r7O b S s.left false v s.n s.ex s.fin) :: row v 3 1 s.got.length (intC s.got) :: L) w := by
  unfold rgA at hO; rw [if_neg h] at hO
  obtain ⟨v, hO⟩ := hO.exE
  exact ⟨v, hO.open_⟩
theorem getD_app64 {l : List Int} {y : Int} (h : ∀ i, I64 (l.getD i 0)) (hy : I64 y) (i : Nat) : I64 ((l ++ [y]).getD i 0) := by
  by_cases hi : i < l.length
  · have e : (l ++ [y]).getD i 0 = l.getD i 0 := by simp only [List.getD, List.getElem?_append_left hi]
    rw [e]; exact h i
  · by_cases hj : i = l.length
    · subst hj; simpa [List.getD] using hy
    · have e : (l ++ [y]).getD i 0 = 0 := by simp [List.getD]; rw [List.getElem?_eq_none (by simp; omega)]; rfl
      rw [e]; simp [I64]
theorem Own.q2 {A B C : Asn} (h : Own w0 F0 (A :: B :: C :: L) w) : Own w0 F0 (C :: A :: B :: L) w := (h.under fun _ _ h => h.swap).swap
theorem Own.q2r {A B C : Asn} (h : Own w0 F0 (C :: A :: B :: L) w) : Own w0 F0 (A :: B :: C :: L) w := h.swap.under fun _ _ h => h.swap
end Go.Proofs.YtlpdafldabfiaaaGreat
end
section
namespace Go.Proofs.YtlpdafldabfiaaaGreat
open Go.ChangeShapes Go.WideShapes Go.ChangeAt Go.RowKit Go.Shelf
set_option linter.unusedVariables false
set_option linter.unusedSimpArgs false
set_option maxRecDepth 100000
variable {w0 w w' : World} {F0 : Nat → Prop} {L : List Asn} {T : TypeId} {m : Nat} {ws : List Int} {lg : List Acc}
theorem r7Count0 (b S r : Nat) (h : Own w0 F0 L w) :
    Calls Tryz.prog 21 #[.int .i64 b, .int .i64 S, .int .i64 r] w fun e w' => ∃ k, e = .returned (.pointer (some ⟨k, 0, none⟩)) ∧ Own w0 F0 (blk k (r7O b S r false (.slice none 0 0) 0 false false) :: L) w' := by
  have H1 := Lib.hid (h.new (r7O b S r false (.slice none 0 0) 0 false false))
  unfold r7O at H1 ⊢
  clear h
  go_enter Tryz.func21, Tryz.ntmps21
  go_wp2_with fail
  go_ret
  exact ⟨_, rfl, H1.out⟩
theorem r7Ans_any {k : Nat} {b S left n : Int} {gl x fin : Bool} {vg : Value} (h : Own w0 F0 (blk k (r7O b S left gl vg n x fin) :: L) w) :
    Calls Tryz.prog 26 #[.pointer (some ⟨k, 0, none⟩)] w fun e w' => e = .returned (ansV 0 n x 0) ∧ Below w.heap.size w w' := by
  obtain ⟨c0, c1, c2, c3, c4, c5, c6, c7, c8, c9, cf⟩ := r7Cells h
  have hg : k < w.heap.size := h.inHeap
  have hO := (Own.start w).new ansO
  have A5 : ∀ o, (w.alloc o).cell? ⟨k, 5, none⟩ = some (.int .i64 0) := fun o => (World.cell?_alloc_lt _ _ _ hg).trans c5
  have A6 : ∀ o, (w.alloc o).cell? ⟨k, 6, none⟩ = some (.int .i64 n) := fun o => (World.cell?_alloc_lt _ _ _ hg).trans c6
  have A7 : ∀ o, (w.alloc o).cell? ⟨k, 7, none⟩ = some (.bool x) := fun o => (World.cell?_alloc_lt _ _ _ hg).trans c7
  have A8 : ∀ o, (w.alloc o).cell? ⟨k, 8, none⟩ = some (.int .i64 0) := fun o => (World.cell?_alloc_lt _ _ _ hg).trans c8
  have HB := Lib.hid (fun y z u v => ((Own.start w).alloc (.cells #[y, z, u, v] 47)).toBelow)
  unfold ansV
  clear h hO
  go_enter Tryz.func26, Tryz.ntmps26
  go_wp2_with fail
  (try simp only [Exit.inBlock, Exit.then])
  refine bodyPost_ret (by simp [results, Tryz.results26, go_sem, *]; try rfl) rfl ?_
  exact ⟨rfl, HB.out _ _ _ _⟩
end Go.Proofs.YtlpdafldabfiaaaGreat
end
section
namespace Go.Proofs.YtlpdafldabfiaaaGreat
open Go.ChangeShapes Go.WideShapes Go.ChangeAt Go.RowKit Go.Shelf
set_option linter.unusedVariables false
set_option linter.unusedSimpArgs false
set_option maxRecDepth 100000
variable {w w' W : World} {L : List Asn} {T : TypeId}
end Go.Proofs.YtlpdafldabfiaaaGreat
end
section
namespace Go.Proofs.YtlpdafldabfiaaaGreat
open Go.ChangeShapes Go.WideShapes Go.ChangeAt Go.RowKit Go.Shelf
set_option linter.unusedVariables false
set_option linter.unusedSimpArgs false
set_option maxRecDepth 100000
variable {w0 w w' W : World} {F0 : Nat → Prop} {L : List Asn} {T : TypeId} {m : Nat} {ws : List Int} {lg : List Acc}
def rcM (k b S : Nat) : Mach SS where
  asn s := rgA k b S s
  step s ws lg := stepS b S s ws lg
  ok s ws lg := s.fin = false ∧ WS b S ws ∧ GS S s ∧ lg.length < 1000000
theorem stepS_on7 (b S : Nat) (s : SS) (ws : List Int) (lg : List Acc) (hf : s.fin = false) : stepS b S s ws lg = (loadS b S s ws, ws, lg ++ [⟨1, (wd b S s.got.length : Nat), ws.getD (wd b S s.got.length) 0, 0, false⟩], (loadS b S s ws).fin) := by
  unfold stepS; rw [if_neg (by simp [hf])]
theorem playF_congr7 {σ : Type} {M M' : Mach σ} (h : ∀ s ws lg, M.step s ws lg = M'.step s ws lg) (l : List Pk) : ∀ f t s ws lg, playF M l f t s ws lg = playF M' l f t s ws lg
  | 0, _, _, _, _ => rfl
  | f + 1, t, s, ws, lg => by rw [playF, playF, h]; simp only [playF_congr7 h l f]
theorem cntAns_any {g b S : Nat} {s : SS} (h : Own w0 F0 (cntA g b S s :: L) w) : Calls Tryz.prog 25 #[.pointer (some ⟨g, 0, none⟩)] w fun e w' => e = .returned (ansV 0 s.n s.ex 0) ∧ Below w.heap.size w w' := by
  unfold cntA at h
  split at h
  · obtain ⟨vl, vf, h⟩ := h.fin
    exact snAns_any h
  · obtain ⟨vl, vf, bc, bt, h⟩ := h.cnt
    exact snAns_any h
theorem rgAns_any {k b S : Nat} {s : SS} (h : Own w0 F0 (rgA k b S s :: L) w) : Calls Tryz.prog 26 #[.pointer (some ⟨k, 0, none⟩)] w fun e w' => e = .returned (ansV 0 s.n s.ex 0) ∧ Below w.heap.size w w' := by
  by_cases hn : s.got = []
  · rw [rg_nil hn] at h
    exact r7Ans_any h
  · obtain ⟨v, h⟩ := rg_get hn h
    exact r7Ans_any h
end Go.Proofs.YtlpdafldabfiaaaGreat
end
