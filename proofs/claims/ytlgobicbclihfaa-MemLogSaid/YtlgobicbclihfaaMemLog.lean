/- MemLog. -/
import Derived.Test.YtlgobicbclihfaaMemLog3
namespace Go.Proofs.Ytlgobicbclihfaa
open Go.ChangeShapes Go.WideShapes Go.ChangeAt Go.RowKit Go.Shelf
set_option linter.unusedVariables false
set_option maxRecDepth 100000 in
theorem MemLog_big (W : World) (n : Int) (p : Option Addr) (len cap : Nat) (hn : len ≤ 9223372036854775807) (h : 100 < len) :
    Calls Try.prog 5 #[.int .u8 n, .slice p len cap] W fun e w' => e = .returned (.bool true) ∧ Below W.heap.size W w' := by
  have Hh := Lib.hid (head_any (Own.start W))
  go_enter Try.func5, Try.ntmps5
  go_wp2_with fail
  refine Hh.out.mono ?_
  rintro e w1 ⟨rfl, hO⟩
  go_wp2_with fail
  go_ret
  exact ⟨rfl, hO.toBelow⟩
set_option maxRecDepth 100000 in
set_option maxHeartbeats 1000000 in
theorem MemLog_main (W : World) (n : Nat) (hn : n ≤ 255) (p : Option Addr) (cap : Nat) (l : List Opn) (hl : l.length ≤ 100) (hv : RowAt W (.slice p l.length cap) l.length (opsC l)) :
    Calls Try.prog 5 #[.int .u8 n, .slice p l.length cap] W fun e w' => e = .returned (.bool true) ∧ Below W.heap.size W w' := by
  have Hh := Lib.hid (head_any (Own.start W))
  have HV := Lib.hid hv
  have a30 := Try.isAgg30
  obtain ⟨i0, hi0, hz0, hz1, hz2⟩ := info_parts Try.info_op
  clear hv
  obtain ⟨kk, hkk⟩ : ∃ kk, kk = n % 20 := ⟨_, rfl⟩
  have W1 : (n : Int) % 20 = (kk : Int) := by omega
  have hk20 : kk < 20 := by omega
  clear hkk
  go_enter Try.func5, Try.ntmps5
  go_wp2_with fail
  refine Hh.out.mono ?_
  rintro e w1 ⟨rfl, hO⟩
  have H1 := Lib.hid (New_any kk (by omega) hO)
  clear hO Hh
  go_wp2_with fail
  refine H1.out.mono ?_
  rintro e w2 ⟨ma, rfl, hO⟩
  have HO := Lib.hid (show Own W NoF [row (.slice none 0 0) 30 4 0 (opsC []), memA 60 ma (run (List.replicate kk 0) []) (logs (List.replicate kk 0) [])] w2 from hO.rowNil)
  clear hO H1
  go_wp2_with fail
  go_loopw [8, 9] (fun va vi wr => ∃ (k : Nat) (al : List Opn), k ≤ l.length ∧ vi = .int .i64 k ∧ al.length ≤ k ∧ (∀ o ∈ al, Rt o kk ∧ o.kind ≠ 5) ∧ Own W NoF [row va 30 4 al.length (opsC al), memA 60 ma (run (List.replicate kk 0) al) (logs (List.replicate kk 0) al)] wr) (fun _ vi _ => l.length - (intOf vi).toNat)
  case atStart => exact ⟨0, [], Nat.zero_le _, rfl, Nat.le_refl _, by simp, HO.out⟩
  case round =>
    obtain ⟨k, al, hk, rfl, hal, hok, hO⟩ := hrel
    have Hok := Lib.hid hok
    have HO2 := Lib.hid hO
    clear HO hok
    by_cases hlt : k < l.length
    · obtain ⟨b, off, rfl, hop⟩ := HV.out.op hlt
      generalize l.getD k default = o at hop
      have Hop := Lib.hid hop
      clear hop
      obtain ⟨c0, c1, c2, c3⟩ := Hop.out.later hO.toBelow
      clear hO
      by_cases hR : Rt o kk
      · have hRy := fun w => Lib.hid (right_yes o kk hR w)
        have HR := Lib.hid hR
        clear hR
        simp only [opV] at hRy
        go_wp2_with fail
        refine (hRy _).out.mono ?_
        rintro e w4 ⟨rfl, hb4⟩
        have H4 := Lib.hid (HO2.out.below hb4)
        clear c0 c1 c2 c3 hb4 hRy HO2
        obtain ⟨c0, c1, c2, c3⟩ := Hop.out.later H4.out.toBelow
        by_cases h5 : o.kind = 5
        · rw [h5] at c0
          have H5 := Lib.hid h5
          clear h5
          go_wp2_with fail
          go_roundw
          case rel => exact ⟨k + 1, al, by omega, by go_num, by omega, Hok.out, H4.out⟩
          case measure => simp [intOf]; omega
        · have hF : (o.kind != 5) = true := by simpa using h5
          have H5 := Lib.hid h5
          have H6 := Lib.hid (done_any o (by rw [run_len]; simpa using HR.out) (by rw [logs_len]; omega) H4.out.swap)
          simp only [opV] at H6
          clear h5
          go_wp2_with fail
          refine H6.out.mono ?_
          rintro e w5 ⟨rfl, hO⟩
          have hO2 := hO.swap
          rw [opS_nxt, opS_ent _ _ _ H5.out HR.out.1 HR.out.2.1, ← run_snoc, ← logs_snoc] at hO2
          have HO3 := Lib.hid hO2
          have Hx := Lib.hid (show al.length + 1 ≤ maxLen by unfold maxLen; omega)
          have Hy := Lib.hid (show (al.length + 1) * 32 ≤ 140737488355328 by omega)
          clear c0 c1 c2 c3 H6 H4 hO hO2 hF
          obtain ⟨c0, c1, c2, c3⟩ := Hop.out.later HO3.out.toBelow
          go_wp2_with (at_builtin; refine wpList_append_row rfl (.tmp 50) (.tmp 55) 22 rfl 30 i0 _ Try.underlying22 hi0 hz0 hz1 hz2 rfl (by decide) rfl (HO3.out.alloc _) ⟨w5.heap.size, 0, none⟩ 1 1 [.int .i64 o.kind, .int .i64 o.w, .int .i64 o.a, .int .i64 o.b] rfl rfl (news_at _ [.int .i64 o.kind, .int .i64 o.w, .int .i64 o.a, .int .i64 o.b] _ _ rfl) (by simp [Value.oneCell']) Hx.out Hy.out ?_; intro v' w6 hO6 hg hn)
          rw [← opsC_snoc, show al.length + 1 = (al ++ [o]).length by simp] at hO6
          have HO6 := Lib.hid hO6
          clear hO6 hg hn c0 c1 c2 c3
          go_roundw
          case rel => exact ⟨k + 1, al ++ [o], by omega, by go_num, by simp; omega, fun x hx => by
              rcases List.mem_append.1 hx with hx | hx
              · exact Hok.out x hx
              · rw [List.mem_singleton.1 hx]; exact ⟨HR.out, H5.out⟩, HO6.out⟩
          case measure => simp [intOf]; omega
      · have hRn := fun w => Lib.hid (right_no o kk hR w)
        clear hR
        simp only [opV] at hRn
        go_wp2_with fail
        refine (hRn _).out.mono ?_
        rintro e w4 ⟨rfl, hb4⟩
        have H4 := Lib.hid (HO2.out.below hb4)
        clear c0 c1 c2 c3 hb4 hRn HO2
        go_wp2_with fail
        go_roundw
        case rel => exact ⟨k + 1, al, by omega, by go_num, by omega, Hok.out, H4.out⟩
        case measure => simp [intOf]; omega
    · obtain ⟨pa, ca, rfl⟩ := row_slice hO
      have H7 := Lib.hid (Log_any (by rw [logs_len]; omega) hO.swap)
      rw [logs_len] at H7
      have hmk := fun w => make_ints kk (by omega) w
      have hal2 : al.length ≤ 100 := by omega
      clear hO HO2
      go_wp2_with fail
      refine H7.out.mono ?_
      rintro e w7 ⟨v7, rfl, hO⟩
      obtain ⟨pl, cl, rfl⟩ := row_slice hO
      have hz : (intC (List.replicate kk 0)).toArray = zeroInts kk := by rw [← zeroInts_list]
      have HO8 := Lib.hid (show LogRel W kk w7.heap.size ma al pa ca pl cl 0 (w7.alloc (.cells (zeroInts kk) 3)) from by
        have h := (hO.under fun _ _ h => h.swap).new (.cells (zeroInts kk) 3)
        rw [← hz] at h ⊢
        exact h)
      clear hO H7
      go_upto_region 16 with fail
      rename_i hkk
      go_cut [11] (fun vc wx => vc = .slice (some ⟨w7.heap.size, 0, none⟩) kk kk ∧ wx = w7.alloc (.cells (zeroInts kk) 3))
      case first =>
        go_wp2_with fail
        go_meet
        exact ⟨rfl, rfl⟩
      case rest =>
        obtain ⟨rfl, rfl⟩ := hcut
        exact hkk _ _ (memlog17_wp W _ kk w7.heap.size ma al pa ca pl cl hk20 hal2 Hok.out HO8)
theorem MemLog_calls (W : World) (n : Int) (l0 : IntKind.u8.min ≤ n) (l1 : n ≤ IntKind.u8.max) (v : Value) (rows : List (List Int)) (hl : rows.length ≤ maxLen) (hr : ∀ r ∈ rows, r.length = 4)
    (hw : ∀ r ∈ rows, ∀ j, j < 4 → (Lit.int (([.i64, .i64, .i64, .i64] : List IntKind).getD j .i64) (r.getD j 0)).wf = true) (hv : RowAt W v rows.length (rowsC [.i64, .i64, .i64, .i64] rows)) :
    Calls Try.prog 5 #[.int .u8 n, v] W fun e w' => e = .returned (.bool true) ∧ Below W.heap.size W w' := by
  have l0' : 0 ≤ n := l0
  have l1' : n ≤ 255 := l1
  obtain ⟨p, cap, rfl⟩ := hv.slice
  obtain ⟨a, rfl⟩ := Int.eq_ofNat_of_zero_le l0'
  by_cases hbig : 100 < rows.length
  · unfold maxLen at hl
    exact MemLog_big W a p rows.length cap (by omega) hbig
  · rw [opsOf_C hr] at hv
    have e : rows.length = (opsOf rows).length := by simp [opsOf]
    rw [e] at hv hbig ⊢
    exact MemLog_main W a (by omega) p cap (opsOf rows) (by omega) hv
end Go.Proofs.Ytlgobicbclihfaa
