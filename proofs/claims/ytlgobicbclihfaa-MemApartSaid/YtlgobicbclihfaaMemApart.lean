/- MemApart. -/
import Derived.Test.YtlgobicbclihfaaMemLogMath
namespace Go.Proofs.Ytlgobicbclihfaa
open Go.ChangeShapes Go.WideShapes Go.ChangeAt Go.RowKit Go.Shelf
set_option linter.unusedVariables false
variable {w0 w w' : World} {F0 : Nat → Prop} {L : List Asn}
/-- A row that anything may stand in. -/
def anyB (g : Nat) (e : TypeId) (size : Nat) : Asn := ex fun cur : Array Value => stars [blk g (.cells cur e (0, 0)), pur (cur.size = size)]
theorem Own.anyOf {g : Nat} {e : TypeId} {cur : Array Value} (h : Own w0 F0 (blk g (.cells cur e (0, 0)) :: L) w) : Own w0 F0 (anyB g e cur.size :: L) w :=
  Own.exI (A := fun c : Array Value => stars [blk g (.cells c e (0, 0)), pur (c.size = cur.size)]) cur (Own.shut (K := [_, _]) (h.under fun _ _ h => h.addPur rfl))
theorem Own.anyE {g : Nat} {e : TypeId} {size : Nat} (h : Own w0 F0 (anyB g e size :: L) w) : ∃ cur : Array Value, cur.size = size ∧ Own w0 F0 (blk g (.cells cur e (0, 0)) :: L) w := by
  obtain ⟨cur, h⟩ := h.exE
  have h := h.open_
  have hp := (h.swap.purE).1
  exact ⟨cur, hp, h.under fun _ _ h => h.drop⟩
theorem Own.anySet {g : Nat} {e : TypeId} {size : Nat} (h : Own w0 F0 (anyB g e size :: L) w) (j : Nat) (hj : j < size) (v : Value) : (∃ u, w.cell? ⟨g, j, none⟩ = some u) ∧ w.frozen? ⟨g, j, none⟩ = false ∧ Own w0 F0 (anyB g e size :: L) (w.setCell ⟨g, j, none⟩ v) := by
  obtain ⟨cur, hc, h⟩ := h.anyE
  refine ⟨⟨cur[j]'(by omega), h.cell (Array.getElem?_eq_getElem (by omega))⟩, h.unfrozen, ?_⟩
  have := (h.set j v).anyOf
  simpa [hc] using this
theorem MemApart_big (W : World) (n : Int) (p : Option Addr) (len cap : Nat) (hn : len ≤ 9223372036854775807) (h : 100 < len) :
    Calls Try.prog 7 #[.int .u8 n, .slice p len cap] W fun e w' => e = .returned (.bool true) ∧ Below W.heap.size W w' := by
  have Hh := Lib.hid (head_any (Own.start W))
  go_enter Try.func7, Try.ntmps7
  go_wp2_with fail
  refine Hh.out.mono ?_
  rintro e w1 ⟨rfl, hO⟩
  go_wp2_with fail
  go_ret
  exact ⟨rfl, hO.toBelow⟩
theorem MemApart_zero (W : World) (p : Option Addr) (len cap : Nat) (hn : len ≤ 100) :
    Calls Try.prog 7 #[.int .u8 0, .slice p len cap] W fun e w' => e = .returned (.bool true) ∧ Below W.heap.size W w' := by
  have Hh := Lib.hid (head_any (Own.start W))
  go_enter Try.func7, Try.ntmps7
  go_wp2_with fail
  refine Hh.out.mono ?_
  rintro e w1 ⟨rfl, hO⟩
  go_wp2_with fail
  go_ret
  exact ⟨rfl, hO.toBelow⟩
set_option maxRecDepth 100000 in
set_option maxHeartbeats 1000000 in
theorem MemApart_main (W : World) (n : Nat) (hn : n ≤ 255) (hn0 : 0 < n) (p : Option Addr) (cap : Nat) (l : List Opn) (hl : l.length ≤ 100) (hv : RowAt W (.slice p l.length cap) l.length (opsC l)) :
    Calls Try.prog 7 #[.int .u8 n, .slice p l.length cap] W fun e w' => e = .returned (.bool true) ∧ Below W.heap.size W w' := by
  have Hh := Lib.hid (head_any (Own.start W))
  have HV := Lib.hid hv
  have a30 := Try.isAgg30
  have hF1 : ((n : Int) == 0) = false := by rw [beq_eq_false_iff_ne]; omega
  clear hv
  obtain ⟨kk, hkk⟩ : ∃ kk, kk = n % 20 + 1 := ⟨_, rfl⟩
  have W1 : (n : Int) % 20 + 1 = (kk : Int) := by omega
  have hk20 : kk < 21 := by omega
  have hk0 : 0 < kk := by omega
  clear hkk
  go_enter Try.func7, Try.ntmps7
  go_wp2_with fail
  refine Hh.out.mono ?_
  rintro e w1 ⟨rfl, hO⟩
  have H1 := Lib.hid (New_any kk (by omega) hO)
  clear hO Hh
  go_wp2_with fail
  refine H1.out.mono ?_
  rintro e w2 ⟨ma, rfl, hO⟩
  have H2 := Lib.hid (New_any kk (by omega) hO)
  clear hO H1
  go_wp2_with fail
  refine H2.out.mono ?_
  rintro e w3 ⟨mb, rfl, hO⟩
  have HO := Lib.hid hO.swap
  clear hO H2
  go_wp2_with fail
  go_loopw [9] (fun vi wr => ∃ (k : Nat) (ws : List Int) (lg : List Acc), k ≤ l.length ∧ vi = .int .i64 k ∧ ws.length = kk ∧ lg.length ≤ k ∧ Own W NoF [memA 60 ma ws lg, memA 60 mb ws lg] wr) (fun vi _ => l.length - (intOf vi).toNat)
  case atStart => exact ⟨0, List.replicate kk 0, [], Nat.zero_le _, rfl, by simp, by simp, HO.out⟩
  case round =>
    obtain ⟨k, ws, lg, hk, rfl, hws, hlg, hO⟩ := hrel
    have Hws := Lib.hid hws
    have HO2 := Lib.hid hO
    clear HO hws
    by_cases hlt : k < l.length
    · obtain ⟨b, off, rfl, hop⟩ := HV.out.op hlt
      generalize l.getD k default = o at hop
      have Hop := Lib.hid hop
      clear hop
      obtain ⟨c0, c1, c2, c3⟩ := Hop.out.later hO.toBelow
      clear hO
      by_cases hR : Rt o kk
      · have hRy := fun w => Lib.hid (right_yes o kk hR w)
        have HR := Lib.hid (show Rt o ws.length by rw [Hws.out]; exact hR)
        clear hR
        simp only [opV] at hRy
        go_wp2_with fail
        refine (hRy _).out.mono ?_
        rintro e w4 ⟨rfl, hb4⟩
        have H4 := Lib.hid (Words_any (by have := Hws.out; omega) (HO2.out.below hb4))
        clear c0 c1 c2 c3 hb4 hRy HO2
        go_wp2_with fail
        refine H4.out.mono ?_
        rintro e w5 ⟨v5, rfl, hO⟩
        have H5 := Lib.hid (Log_any (by omega) hO.swap)
        clear H4 hO
        go_wp2_with fail
        refine H5.out.mono ?_
        rintro e w6 ⟨v6, rfl, hO⟩
        obtain ⟨c0, c1, c2, c3⟩ := Hop.out.later hO.toBelow
        have H6 := Lib.hid (done_any o HR.out (by omega) hO.swap)
        simp only [opV] at H6
        clear H5 hO
        go_wp2_with fail
        refine H6.out.mono ?_
        rintro e w7 ⟨rfl, hO⟩
        clear c0 c1 c2 c3
        obtain ⟨c0, c1, c2, c3⟩ := Hop.out.later hO.toBelow
        have H7 := Lib.hid (done_any o HR.out (by omega) hO.p3)
        simp only [opV] at H7
        clear H6 hO
        go_wp2_with fail
        refine H7.out.mono ?_
        rintro e w8 ⟨rfl, hO⟩
        have Hl2 := Lib.hid (opS_len o ws lg)
        have Hl3 := Lib.hid (opS_log o ws lg)
        clear c0 c1 c2 c3 H7
        generalize opS o ws lg = s at hO Hl2 Hl3 ⊢
        obtain ⟨ws', lg', x, y⟩ := s
        simp only at hO Hl2 Hl3 ⊢
        obtain ⟨gw, cw, curw, rfl, hnc, hcm, hcs, _, _, hO⟩ := hO.p3.rowBlk (by have := Hws.out; omega)
        have hcs2 : kk ≤ curw.size := by have := Hws.out; omega
        have HO := Lib.hid hO.anyOf
        generalize curw.size = sw at hcs2 HO
        rw [Hws.out]
        clear hO hcs hnc hcm
        go_wp2_with fail
        go_loopw [16] (fun vj wr => ∃ j : Nat, j ≤ kk ∧ vj = .int .i64 j ∧ Own W NoF (anyB gw 3 sw :: memA 60 mb ws' lg' :: memA 60 ma ws' lg' :: row v6 45 5 lg.length (logC lg) :: []) wr) (fun vj _ => kk - (intOf vj).toNat)
        case atStart => exact ⟨0, Nat.zero_le _, rfl, HO.out⟩
        case round =>
          obtain ⟨j, hj, rfl, hO⟩ := hrel
          clear HO
          by_cases hjk : j < kk
          · obtain ⟨⟨u, hu⟩, hf, hO2⟩ := hO.anySet j (by omega) (.int .i64 77)
            have HO2 := Lib.hid hO2
            clear hO hO2
            go_wp2_with fail
            go_roundw
            case rel => exact ⟨j + 1, by omega, by go_num, HO2.out⟩
            case measure => simp [intOf]; omega
          · have HO := Lib.hid hO
            obtain ⟨pg, cg, rfl⟩ := row_slice hO.p3
            clear hO
            go_wp2_with fail
            go_loopw [17] (fun vj wr => ∃ (j : Nat) (xs : List Value), j ≤ lg.length ∧ vj = .int .i64 j ∧ Own W NoF (row (.slice pg lg.length cg) 45 5 lg.length xs :: memA 60 mb ws' lg' :: memA 60 ma ws' lg' :: []) wr) (fun vj _ => lg.length - (intOf vj).toNat)
            case atStart => exact ⟨0, _, Nat.zero_le _, rfl, HO.out.p3.under fun _ _ h => h.drop⟩
            case round =>
              obtain ⟨j2, xs, hj2, rfl, hO⟩ := hrel
              clear HO
              by_cases hjk2 : j2 < lg.length
              · obtain ⟨g2, c2, cur2, e2, hnc2, hcm2, hcs2, htk2, hxl2, hB⟩ := hO.rowBlk (by omega)
                cases e2
                have hsz : j2 * 5 + 1 < cur2.size := by omega
                have hcell : _ = _ := hB.cell (i := j2 * 5 + 1) (Array.getElem?_eq_getElem hsz)
                have hfr := hB.unfrozen (i := j2 * 5 + 1)
                have HO2 := Lib.hid ((hB.set (j2 * 5 + 1) (.int .i64 77)).blkRow (n := lg.length) (cap := cg) (size := 5) hnc2 hcm2 (by simpa using hcs2) rfl (by simp; omega))
                clear hO hB htk2 hxl2
                go_wp2_with fail
                go_roundw
                case rel => exact ⟨j2 + 1, _, by omega, by go_num, HO2.out⟩
                case measure => simp [intOf]; omega
              · have HO := Lib.hid hO.drop
                clear hO
                have H7 := Lib.hid (Words_any (by have := Hl2.out; have := Hws.out; omega) HO.out.swap)
                clear HO
                go_wp2_with fail
                refine H7.out.mono ?_
                rintro e w9 ⟨v9, rfl, hO⟩
                have H8 := Lib.hid (Words_any (by have := Hl2.out; have := Hws.out; omega) hO.p2)
                clear H7 hO
                go_wp2_with fail
                refine H8.out.mono ?_
                rintro e w10 ⟨v10, rfl, hO⟩
                have H9 := Lib.hid (SameInts_yes hO.p2.intsAt hO.intsAt (by have := Hl2.out; have := Hws.out; omega))
                have HO := Lib.hid (hO.drop.under fun _ _ h => h.drop)
                clear H8 hO
                go_wp2_with fail
                refine H9.out.mono ?_
                rintro e w11 ⟨rfl, hD⟩
                have H10 := Lib.hid (Log_any (by have := Hl3.out; omega) (HO.out.below hD.below).swap)
                clear H9 hD HO
                go_wp2_with fail
                refine H10.out.mono ?_
                rintro e w12 ⟨v12, rfl, hO⟩
                have H11 := Lib.hid (Log_any (by have := Hl3.out; omega) hO.p2)
                clear H10 hO
                go_wp2_with fail
                refine H11.out.mono ?_
                rintro e w13 ⟨v13, rfl, hO⟩
                have H12 := Lib.hid (SameLog_yes hO.p2.logAt hO.logAt (by have := Hl3.out; omega))
                have HO := Lib.hid (hO.drop.under fun _ _ h => h.drop)
                clear H11 hO
                go_wp2_with fail
                refine H12.out.mono ?_
                rintro e w14 ⟨rfl, hD⟩
                have H13 := Lib.hid (Words_any (by have := Hl2.out; have := Hws.out; omega) (HO.out.below hD.below).swap)
                clear H12 hD HO
                go_wp2_with fail
                refine H13.out.mono ?_
                rintro e w15 ⟨v15, rfl, hO⟩
                obtain ⟨p15, c15, rfl⟩ := row_slice hO
                have HO := Lib.hid hO.drop
                have Hle := Lib.hid (show ws'.length = kk by rw [Hl2.out, Hws.out])
                rw [Hle.out]
                clear H13 hO
                go_wp2_with fail
                go_roundw
                case rel => exact ⟨k + 1, ws', lg', by omega, by go_num, Hle.out, by have := Hl3.out; omega, HO.out⟩
                case measure => simp [intOf]; omega
      · have hRn := fun w => Lib.hid (right_no o kk hR w)
        clear hR
        simp only [opV] at hRn
        go_wp2_with fail
        refine (hRn _).out.mono ?_
        rintro e w4 ⟨rfl, hb4⟩
        have H4 := Lib.hid (HO2.out.below hb4)
        clear c0 c1 c2 c3 hb4 hRn HO2
        go_wp2_with fail
        go_roundw
        case rel => exact ⟨k + 1, ws, lg, by omega, by go_num, Hws.out, by omega, H4.out⟩
        case measure => simp [intOf]; omega
    · clear hO
      go_wp2_with fail
      go_ret
      exact ⟨rfl, HO2.out.toBelow⟩
theorem MemApart_calls (W : World) (n : Int) (l0 : IntKind.u8.min ≤ n) (l1 : n ≤ IntKind.u8.max) (v : Value) (rows : List (List Int)) (hl : rows.length ≤ maxLen) (hr : ∀ r ∈ rows, r.length = 4)
    (hw : ∀ r ∈ rows, ∀ j, j < 4 → (Lit.int (([.i64, .i64, .i64, .i64] : List IntKind).getD j .i64) (r.getD j 0)).wf = true) (hv : RowAt W v rows.length (rowsC [.i64, .i64, .i64, .i64] rows)) :
    Calls Try.prog 7 #[.int .u8 n, v] W fun e w' => e = .returned (.bool true) ∧ Below W.heap.size W w' := by
  have l0' : 0 ≤ n := l0
  have l1' : n ≤ 255 := l1
  obtain ⟨p, cap, rfl⟩ := hv.slice
  obtain ⟨a, rfl⟩ := Int.eq_ofNat_of_zero_le l0'
  by_cases hbig : 100 < rows.length
  · unfold maxLen at hl
    exact MemApart_big W a p rows.length cap (by omega) hbig
  · by_cases ha0 : a = 0
    · subst ha0
      exact MemApart_zero W p rows.length cap (by omega)
    rw [opsOf_C hr] at hv
    have e : rows.length = (opsOf rows).length := by simp [opsOf]
    rw [e] at hv hbig ⊢
    exact MemApart_main W a (by omega) (by omega) p cap (opsOf rows) (by omega) hv
end Go.Proofs.Ytlgobicbclihfaa
