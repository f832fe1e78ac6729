/- MemTells. -/
import Derived.Test.YtlgobicbclihfaaMemOps
import Derived.Deep.RegionHeld3
import Derived.Deep.DeepCutAuto
namespace Go.Proofs.Ytlgobicbclihfaa
open Go.ChangeShapes Go.WideShapes Go.ChangeAt Go.RowKit Go.Shelf
set_option linter.unusedVariables false
theorem MemTells_big (W : World) (n : Int) (p : Option Addr) (len cap : Nat) (hn : len ≤ 9223372036854775807) (h : 100 < len) :
    Calls Try.prog 3 #[.int .u8 n, .slice p len cap] W fun e w' => e = .returned (.bool true) ∧ Below W.heap.size W w' := by
  have Hh := Lib.hid (head_any (Own.start W))
  go_enter Try.func3, Try.ntmps3
  go_wp2_with fail
  refine Hh.out.mono ?_
  rintro e w1 ⟨rfl, hO⟩
  go_wp2_with fail
  go_ret
  exact ⟨rfl, hO.toBelow⟩
set_option maxHeartbeats 400000 in
theorem MemTells_main (W : World) (n : Nat) (hn : n ≤ 255) (p : Option Addr) (cap : Nat) (l : List Opn) (hl : l.length ≤ 100) (hv : RowAt W (.slice p l.length cap) l.length (opsC l)) :
    Calls Try.prog 3 #[.int .u8 n, .slice p l.length cap] W fun e w' => e = .returned (.bool true) ∧ Below W.heap.size W w' := by
  have Hh := Lib.hid (head_any (Own.start W))
  have HV := Lib.hid hv
  have a30 := Try.isAgg30
  clear hv
  obtain ⟨kk, hkk⟩ : ∃ kk, kk = n % 20 := ⟨_, rfl⟩
  have W1 : (n : Int) % 20 = (kk : Int) := by omega
  have hk20 : kk < 20 := by omega
  clear hkk
  go_enter Try.func3, Try.ntmps3
  go_wp2_with fail
  refine Hh.out.mono ?_
  rintro e w1 ⟨rfl, hO⟩
  have H1 := Lib.hid (New_any kk (by omega) hO)
  clear hO Hh
  go_wp2_with fail
  refine H1.out.mono ?_
  rintro e w2 ⟨ma, rfl, hO⟩
  have H2 := Lib.hid (rNew_any kk (by omega) hO)
  clear hO H1
  go_wp2_with fail
  refine H2.out.mono ?_
  rintro e w3 ⟨mb, rfl, hO⟩
  have HO := Lib.hid hO.swap
  clear hO H2
  go_wp2_with fail
  go_loopw [9] (fun vi wr => ∃ (k : Nat) (ws : List Int) (lg : List Acc), k ≤ l.length ∧ vi = .int .i64 k ∧ ws.length = kk ∧ lg.length ≤ k ∧ Own W NoF [memA 60 ma ws lg, memA 39 mb ws lg] wr) (fun vi _ => l.length - (intOf vi).toNat)
  case atStart => exact ⟨0, List.replicate kk 0, [], Nat.zero_le _, rfl, by simp, by simp, HO.out⟩
  case round =>
    obtain ⟨k, ws, lg, hk, rfl, hws, hlg, hO⟩ := hrel
    have Hws := Lib.hid hws
    have HO2 := Lib.hid hO
    clear HO hws
    by_cases hlt : k < l.length
    · obtain ⟨b, off, rfl, hop⟩ := HV.out.op hlt
      generalize l.getD k default = o at hop
      have Hop := Lib.hid hop
      clear hop
      obtain ⟨c0, c1, c2, c3⟩ := Hop.out.later hO.toBelow
      clear hO
      by_cases hR : Rt o kk
      · have hRy := fun w => Lib.hid (right_yes o kk hR w)
        have HR := Lib.hid (show Rt o ws.length by rw [Hws.out]; exact hR)
        clear hR
        simp only [opV] at hRy
        go_wp2_with fail
        refine (hRy _).out.mono ?_
        rintro e w4 ⟨rfl, hb4⟩
        have H4 := Lib.hid (HO2.out.below hb4)
        clear c0 c1 c2 c3 hb4 hRy
        obtain ⟨c0, c1, c2, c3⟩ := Hop.out.later H4.out.toBelow
        have H5 := Lib.hid (done_any o HR.out (by omega) H4.out)
        simp only [opV] at H5
        go_wp2_with fail
        refine H5.out.mono ?_
        rintro e w5 ⟨rfl, hO⟩
        have H6 := Lib.hid (want_any o (by have := Hws.out; omega) HR.out (by omega) hO.swap)
        clear c0 c1 c2 c3 H4 H5 HO2
        obtain ⟨c0, c1, c2, c3⟩ := Hop.out.later hO.toBelow
        clear hO
        simp only [opV] at H6
        go_wp2_with fail
        refine H6.out.mono ?_
        rintro e w6 ⟨rfl, hO⟩
        have HO := Lib.hid hO.swap
        have Hl2 := Lib.hid (opS_len o ws lg)
        have Hl3 := Lib.hid (opS_log o ws lg)
        clear c0 c1 c2 c3 H6 hO
        generalize opS o ws lg = s at HO Hl2 Hl3 ⊢
        obtain ⟨ws', lg', x, y⟩ := s
        simp only at HO Hl2 Hl3 ⊢
        obtain ⟨vw, vl, hO⟩ := HO.out.swap.mem
        obtain ⟨pw, cw, rfl⟩ := row_slice hO.swap
        have e0 : w6.cell? ⟨mb, 0, none⟩ = some (.slice pw ws'.length cw) := hO.cell (i := 0) rfl
        have HB := Lib.hid hO.p3
        have H7 := Lib.hid (Words_any (by have := Hl2.out; have := Hws.out; omega) HB.out.drew)
        clear hO HO
        go_wp2_with fail
        go_region_held3 (fun w' => w'.cell? ⟨mb, 0, none⟩ = some (.slice pw ws'.length cw)) (go_keep)
          (first
            | (go_at_call 16; refine H7.out.mono ?_; rintro e w7 ⟨v7, rfl, hO⟩; have H8 := Lib.hid (SameInts_yes hO.intsAt hO.p3.intsAt (by have := Hl2.out; have := Hws.out; omega)); have HO := Lib.hid (show Own W NoF [memA 60 ma ws' lg', memA 39 mb ws' lg'] w7 from hO.drop.under fun _ _ h => h.toMem); have e1 : w7.cell? ⟨mb, 0, none⟩ = some (.slice pw ws'.length cw) := hO.p2.cell (i := 0) rfl; clear hO)
            | (go_at_call 15; refine H8.out.mono ?_; rintro e w8 ⟨rfl, hD⟩; have HO9 := Lib.hid (HO.out.below hD.below); have e2 : w8.cell? ⟨mb, 0, none⟩ = some (.slice pw ws'.length cw) := hD.cell e1; clear hD))
        all_goals
          go_wp2_with fail
          go_roundw
          case rel => exact ⟨k + 1, ws', lg', by omega, by go_num, by rw [Hl2.out, Hws.out], by have := Hl3.out; omega, HO9.out⟩
          case measure => simp [intOf]; omega
      · have hRn := fun w => Lib.hid (right_no o kk hR w)
        clear hR
        simp only [opV] at hRn
        go_wp2_with fail
        refine (hRn _).out.mono ?_
        rintro e w4 ⟨rfl, hb4⟩
        have H4 := Lib.hid (HO2.out.below hb4)
        clear c0 c1 c2 c3 hb4 hRn HO2
        go_wp2_with fail
        go_roundw
        case rel => exact ⟨k + 1, ws, lg, by omega, by go_num, Hws.out, by omega, H4.out⟩
        case measure => simp [intOf]; omega
    · obtain ⟨vw, vl, hO⟩ := HO2.out.swap.mem
      obtain ⟨pl, cl, rfl⟩ := row_slice hO.p2
      have e0 : wr.cell? ⟨mb, 1, none⟩ = some (.slice pl lg.length cl) := hO.cell (i := 1) rfl
      have H7 := Lib.hid (Log_any (by omega) hO.p3.drew)
      clear hO HO2
      go_wp2_with fail
      go_region_held3 (fun w' => w'.cell? ⟨mb, 1, none⟩ = some (.slice pl lg.length cl)) (go_keep)
        (first
          | (go_at_call 18; refine H7.out.mono ?_; rintro e w7 ⟨v7, rfl, hO⟩; have H8 := Lib.hid (SameLog_yes hO.logAt hO.p4.logAt (by omega)); have HO := Lib.hid hO.drop; have e1 : w7.cell? ⟨mb, 1, none⟩ = some (.slice pl lg.length cl) := hO.p2.cell (i := 1) rfl; clear hO)
          | (go_at_call 17; refine H8.out.mono ?_; rintro e w8 ⟨rfl, hD⟩; have HO9 := Lib.hid (HO.out.below hD.below); have e2 : w8.cell? ⟨mb, 1, none⟩ = some (.slice pl lg.length cl) := hD.cell e1; clear hD)
          | (go_at_call 19; refine (Len_any HO9.out).mono ?_; rintro e w9 ⟨rfl, rfl⟩; rw [Hws.out]))
      all_goals
        go_wp2_with fail
        go_ret
        exact ⟨rfl, HO9.out.toBelow⟩
theorem MemTells_calls (W : World) (n : Int) (l0 : IntKind.u8.min ≤ n) (l1 : n ≤ IntKind.u8.max) (v : Value) (rows : List (List Int)) (hl : rows.length ≤ maxLen) (hr : ∀ r ∈ rows, r.length = 4)
    (hw : ∀ r ∈ rows, ∀ j, j < 4 → (Lit.int (([.i64, .i64, .i64, .i64] : List IntKind).getD j .i64) (r.getD j 0)).wf = true) (hv : RowAt W v rows.length (rowsC [.i64, .i64, .i64, .i64] rows)) :
    Calls Try.prog 3 #[.int .u8 n, v] W fun e w' => e = .returned (.bool true) ∧ Below W.heap.size W w' := by
  have l0' : 0 ≤ n := l0
  have l1' : n ≤ 255 := l1
  obtain ⟨p, cap, rfl⟩ := hv.slice
  obtain ⟨a, rfl⟩ := Int.eq_ofNat_of_zero_le l0'
  by_cases hbig : 100 < rows.length
  · unfold maxLen at hl
    exact MemTells_big W a p rows.length cap (by omega) hbig
  · rw [opsOf_C hr] at hv
    have e : rows.length = (opsOf rows).length := by simp [opsOf]
    rw [e] at hv hbig ⊢
    exact MemTells_main W a (by omega) p cap (opsOf rows) (by omega) hv
end Go.Proofs.Ytlgobicbclihfaa
