/- MemOne. -/
import Derived.Test.YtlgobicbclihfaaMemOps
namespace Go.Proofs.Ytlgobicbclihfaa
open Go.ChangeShapes Go.WideShapes Go.ChangeAt Go.RowKit Go.Shelf
set_option linter.unusedVariables false
theorem MemOne_big (W : World) (n : Int) (p : Option Addr) (len cap : Nat) (hn : len ≤ 9223372036854775807) (h : 100 < len) :
    Calls Try.prog 4 #[.int .u8 n, .slice p len cap] W fun e w' => e = .returned (.bool true) ∧ Below W.heap.size W w' := by
  have Hh := Lib.hid (head_any (Own.start W))
  go_enter Try.func4, Try.ntmps4
  go_wp2_with fail
  refine Hh.out.mono ?_
  rintro e w1 ⟨rfl, hO⟩
  go_wp2_with fail
  go_ret
  exact ⟨rfl, hO.toBelow⟩
theorem opS_one {o : Opn} {ws : List Int} {lg : List Acc} {j : Nat} (hr : Rt o ws.length) (h : ws.getD j 0 ≠ (opS o ws lg).ws.getD j 0) : o.w = j ∧ o.kind ≠ 1 ∧ (o.kind = 3 → (opS o ws lg).p = true) := by
  have set_ne : ∀ (x : Int), ws.getD j 0 ≠ (ws.set o.w.toNat x).getD j 0 → o.w = j := fun x h => by
    by_cases e : o.w.toNat = j
    · have := hr.2.2.1; omega
    · exfalso; apply h
      simp [List.getD, e]
  unfold opS at h ⊢
  split at h
  · exact absurd rfl h
  · split at h
    · rename_i h1 h2
      exact ⟨set_ne _ h, h1, fun h3 => by omega⟩
    · split at h
      · split at h
        · rename_i h1 h2 h3 h4
          refine ⟨set_ne _ h, h1, fun _ => ?_⟩
          rw [if_neg h1, if_neg h2, if_pos h3, if_pos h4]
        · exact absurd rfl h
      · split at h
        · rename_i h1 h2 h3 h4
          exact ⟨set_ne _ h, h1, fun h5 => absurd h5 h3⟩
        · rename_i h1 h2 h3 h4
          exact ⟨set_ne _ h, h1, fun h5 => absurd h5 h3⟩
set_option maxRecDepth 100000 in
theorem MemOne_main (W : World) (n : Nat) (hn : n ≤ 255) (p : Option Addr) (cap : Nat) (l : List Opn) (hl : l.length ≤ 100) (hv : RowAt W (.slice p l.length cap) l.length (opsC l)) :
    Calls Try.prog 4 #[.int .u8 n, .slice p l.length cap] W fun e w' => e = .returned (.bool true) ∧ Below W.heap.size W w' := by
  have Hh := Lib.hid (head_any (Own.start W))
  have HV := Lib.hid hv
  have a30 := Try.isAgg30
  clear hv
  obtain ⟨kk, hkk⟩ : ∃ kk, kk = n % 20 := ⟨_, rfl⟩
  have W1 : (n : Int) % 20 = (kk : Int) := by omega
  have hk20 : kk < 20 := by omega
  clear hkk
  go_enter Try.func4, Try.ntmps4
  go_wp2_with fail
  refine Hh.out.mono ?_
  rintro e w1 ⟨rfl, hO⟩
  have H1 := Lib.hid (New_any kk (by omega) hO)
  clear hO Hh
  go_wp2_with fail
  refine H1.out.mono ?_
  rintro e w2 ⟨ma, rfl, hO⟩
  have HO := Lib.hid hO
  clear hO H1
  go_wp2_with fail
  go_loopw [8] (fun vi wr => ∃ (k : Nat) (ws : List Int) (lg : List Acc), k ≤ l.length ∧ vi = .int .i64 k ∧ ws.length = kk ∧ lg.length ≤ k ∧ Own W NoF [memA 60 ma ws lg] wr) (fun vi _ => l.length - (intOf vi).toNat)
  case atStart => exact ⟨0, List.replicate kk 0, [], Nat.zero_le _, rfl, by simp, by simp, HO.out⟩
  case round =>
    obtain ⟨k, ws, lg, hk, rfl, hws, hlg, hO⟩ := hrel
    have Hws := Lib.hid hws
    have HO2 := Lib.hid hO
    clear HO hws
    by_cases hlt : k < l.length
    · obtain ⟨b, off, rfl, hop⟩ := HV.out.op hlt
      generalize l.getD k default = o at hop
      have Hop := Lib.hid hop
      clear hop
      obtain ⟨c0, c1, c2, c3⟩ := Hop.out.later hO.toBelow
      clear hO
      by_cases hR : Rt o kk
      · have hRy := fun w => Lib.hid (right_yes o kk hR w)
        have HR := Lib.hid (show Rt o ws.length by rw [Hws.out]; exact hR)
        clear hR
        simp only [opV] at hRy
        go_wp2_with fail
        refine (hRy _).out.mono ?_
        rintro e w4 ⟨rfl, hb4⟩
        have H4 := Lib.hid (Words_any (by have := Hws.out; omega) (HO2.out.below hb4))
        clear c0 c1 c2 c3 hb4 hRy
        go_wp2_with fail
        refine H4.out.mono ?_
        rintro e w5 ⟨v5, rfl, hO⟩
        obtain ⟨p5, cp5, rfl⟩ := row_slice hO
        rw [Hws.out]
        have H5 := Lib.hid (done_any o HR.out (by omega) hO.swap)
        obtain ⟨c0, c1, c2, c3⟩ := Hop.out.later hO.toBelow
        clear H4 hO
        simp only [opV] at H5
        go_wp2_with fail
        refine H5.out.mono ?_
        rintro e w6 ⟨rfl, hO⟩
        have Hl2 := Lib.hid (opS_len o ws lg)
        have Hl3 := Lib.hid (opS_log o ws lg)
        have Hone := Lib.hid (fun j => @opS_one o ws lg j HR.out)
        clear c0 c1 c2 c3 H5 HO2
        generalize opS o ws lg = s at hO Hl2 Hl3 Hone ⊢
        obtain ⟨ws', lg', x, y⟩ := s
        simp only at hO Hl2 Hl3 Hone ⊢
        have H6 := Lib.hid (Words_any (by have := Hl2.out; have := Hws.out; omega) hO)
        clear hO
        go_wp2_with fail
        refine H6.out.mono ?_
        rintro e w7 ⟨v7, rfl, hO⟩
        obtain ⟨p7, cp7, rfl⟩ := row_slice hO
        rw [Hl2.out, Hws.out]
        have HO := Lib.hid hO
        clear H6 hO
        obtain ⟨c0, c1, c2, c3⟩ := Hop.out.later HO.out.toBelow
        have C0 := Lib.hid c0
        have C1 := Lib.hid c1
        have I5 := Lib.hid (HO.out.p2.intsAt)
        have I7 := Lib.hid (HO.out.intsAt)
        clear c0 c1 c2 c3
        go_wp2_with fail
        go_loopw [13] (fun vj wr => ∃ j : Nat, j ≤ kk ∧ vj = .int .i64 j ∧ Drew w7 wr) (fun vj _ => kk - (intOf vj).toNat)
        case atStart => exact ⟨0, Nat.zero_le _, rfl, Drew.refl _⟩
        case round =>
          obtain ⟨j, hj, rfl, hD⟩ := hrel
          by_cases hjk : j < kk
          · obtain ⟨b5, o5, c5, e5, h5⟩ := I5.out.at (by have := Hws.out; omega)
            obtain ⟨b7, o7, c7, e7, h7⟩ := I7.out.at (by have := Hl2.out; have := Hws.out; omega)
            injection e5 with e5 _ f5
            injection e7 with e7 _ f7
            subst e5 e7 f5 f7
            have d5 := hD.cell (h5 j (by have := Hws.out; omega))
            have d7 := hD.cell (h7 j (by have := Hl2.out; have := Hws.out; omega))
            have c0 := hD.cell C0.out
            have c1 := hD.cell C1.out
            have HD := Lib.hid hD
            clear h5 h7 hD
            by_cases hz : ws.getD j 0 = ws'.getD j 0
            · rw [← hz] at d7
              clear hz
              generalize ws.getD j 0 = z at d5 d7
              go_wp2_with fail
              go_quiet (fail)
              have hD2 := HD.out.more nq
              have HD2 := Lib.hid hD2
              clear hD2 HD d5 d7 c0 c1
              go_wp2_with fail
              go_roundw
              case rel => exact ⟨j + 1, by omega, by go_num, HD2.out⟩
              case measure => simp [intOf]; omega
            · obtain ⟨g1, g2, g3⟩ := Hone.out j hz
              have hF : (ws.getD j 0 != ws'.getD j 0) = true := by simpa using hz
              rw [g1] at c1
              have hF2 : (o.kind == 1) = false := by simpa using g2
              clear hz g1 g2
              generalize ws.getD j 0 = z at d5 hF
              generalize ws'.getD j 0 = z' at d7 hF
              by_cases hk3 : o.kind = 3
              · have g4 := g3 hk3
                subst g4
                rw [hk3] at c0
                clear g3 hk3 hF2
                go_wp2_with fail
                go_quiet (fail)
                have hD2 := HD.out.more nq
                have HD2 := Lib.hid hD2
                clear hD2 HD d5 d7 c0 c1
                go_wp2_with fail
                go_roundw
                case rel => exact ⟨j + 1, by omega, by go_num, HD2.out⟩
                case measure => simp [intOf]; omega
              · have hF3 : (o.kind == 3) = false := by simpa using hk3
                clear g3 hk3
                go_wp2_with fail
                go_quiet (fail)
                have hD2 := HD.out.more nq
                have HD2 := Lib.hid hD2
                clear hD2 HD d5 d7 c0 c1
                go_wp2_with fail
                go_roundw
                case rel => exact ⟨j + 1, by omega, by go_num, HD2.out⟩
                case measure => simp [intOf]; omega
          · have hO := HO.out.below hD.below
            have HO3 := Lib.hid (hO.drop.under fun _ _ h => h.drop)
            clear hO hD HO
            go_wp2_with fail
            go_roundw
            case rel => exact ⟨k + 1, ws', lg', by omega, by go_num, by rw [Hl2.out, Hws.out], by have := Hl3.out; omega, HO3.out⟩
            case measure => simp [intOf]; omega
      · have hRn := fun w => Lib.hid (right_no o kk hR w)
        clear hR
        simp only [opV] at hRn
        go_wp2_with fail
        refine (hRn _).out.mono ?_
        rintro e w4 ⟨rfl, hb4⟩
        have H4 := Lib.hid (HO2.out.below hb4)
        clear c0 c1 c2 c3 hb4 hRn HO2
        go_wp2_with fail
        go_roundw
        case rel => exact ⟨k + 1, ws, lg, by omega, by go_num, Hws.out, by omega, H4.out⟩
        case measure => simp [intOf]; omega
    · clear hO
      go_wp2_with fail
      go_ret
      exact ⟨rfl, HO2.out.toBelow⟩
theorem MemOne_calls (W : World) (n : Int) (l0 : IntKind.u8.min ≤ n) (l1 : n ≤ IntKind.u8.max) (v : Value) (rows : List (List Int)) (hl : rows.length ≤ maxLen) (hr : ∀ r ∈ rows, r.length = 4)
    (hw : ∀ r ∈ rows, ∀ j, j < 4 → (Lit.int (([.i64, .i64, .i64, .i64] : List IntKind).getD j .i64) (r.getD j 0)).wf = true) (hv : RowAt W v rows.length (rowsC [.i64, .i64, .i64, .i64] rows)) :
    Calls Try.prog 4 #[.int .u8 n, v] W fun e w' => e = .returned (.bool true) ∧ Below W.heap.size W w' := by
  have l0' : 0 ≤ n := l0
  have l1' : n ≤ 255 := l1
  obtain ⟨p, cap, rfl⟩ := hv.slice
  obtain ⟨a, rfl⟩ := Int.eq_ofNat_of_zero_le l0'
  by_cases hbig : 100 < rows.length
  · unfold maxLen at hl
    exact MemOne_big W a p rows.length cap (by omega) hbig
  · rw [opsOf_C hr] at hv
    have e : rows.length = (opsOf rows).length := by simp [opsOf]
    rw [e] at hv hbig ⊢
    exact MemOne_main W a (by omega) p cap (opsOf rows) (by omega) hv
end Go.Proofs.Ytlgobicbclihfaa
