/- Texts of elder layers, one behind the other: TreeRef2, TreeRef3, RowMore, AddArg, AddBase. -/
import Derived.Test.YtlpdafldabfiaaaGreatC18
import Derived.Lib.QuietBelow
import Derived.BigQuiet
import Derived.Deep.QuietTactic
import Derived.Deep.RegionHeld3
section
namespace Go.Proofs.YtlpdafldabfiaaaGreat
open Go.ChangeShapes Go.WideShapes Go.ChangeAt Go.RowKit Go.Shelf
set_option maxRecDepth 100000
set_option linter.unusedVariables false
variable {w0 w w' : World} {F0 : Nat → Prop} {L : List Asn}
theorem upF_take {ps : List Int} {v : Int} {k : Nat} (h : k < (path ps v).length) : (path ps v).take (k + 1) = (path ps v).take k ++ [(path ps v).getD k (-1)] := take_snoc h
theorem rPath_any (c : Cf) (ht : Tr c.ps) {vp vl : Value} (hp : IntsAt w .i64 vp c.ps) (hl : IntsAt w .i64 vl c.ls) (v : Int) (h : Own w0 F0 L w) :
    Calls Tryz.prog 72 #[cfV c vp vl, .int .i64 v] w (RetRow w0 F0 L 3 1 (path c.ps v).length (intC (path c.ps v))) := by
  refine Calls.mono (R := RetRow w (fun _ => False) [] 3 1 (path c.ps v).length (intC (path c.ps v))) ?_ fun e w' ⟨u, he, hO⟩ => ⟨u, he, h.lift hO⟩
  obtain ⟨pp, cp, rfl⟩ := hp.slice
  obtain ⟨pl, cl, rfl⟩ := hl.slice
  have HP := Lib.hid hp
  have HO := Lib.hid ((Own.start w).new (cfO c (.slice pp c.ps.length cp) (.slice pl c.ls.length cl)))
  have hn1 := ht.n1
  have hn0 := ht.n0
  clear hp hl h
  by_cases hin : 0 ≤ v ∧ v < c.ps.length
  · obtain ⟨h0, h1⟩ := hin
    have HX := Lib.hid (path_next ht v (by omega) h1)
    have HZ := Lib.hid (path_zero ht v h0 h1)
    have HN := Lib.hid (path_pos ht v h0 h1)
    have HT := Lib.hid ht
    have hl12 := path_len12 ht v
    have HTk := Lib.hid (fun k h => upF_take (ps := c.ps) (v := v) (k := k) h)
    have HEnd := Lib.hid (show (path c.ps v).getD (path c.ps v).length (-1) = -1 by simp [List.getD])
    obtain ⟨i0, hi0, hz0, hz1, hz2⟩ := info_parts Tryz.info_int
    have HO1 := Lib.hid (HO.out.rowNil (e := 3) (size := 1))
    obtain ⟨b, off, cap, he, hb⟩ := HP.out.at (by omega)
    injection he with he1 he2 he3
    subst he1
    have Hb := Lib.hid hb
    clear ht HO he2 he3 hb
    generalize path c.ps v = xs at *
    go_enter Tryz.func72, Tryz.ntmps72
    go_wp2
    go_loopw [5, 6] (fun r z wr => ∃ k : Nat, k ≤ xs.length ∧ z = .int .i64 (xs.getD k (-1)) ∧ Own w (fun _ => False) [row r 3 1 k (intC (xs.take k)), blk w.heap.size (cfO c (.slice (some ⟨b, off, none⟩) c.ps.length cp) (.slice pl c.ls.length cl))] wr) (fun _ z _ => (intOf z + 1).toNat)
    case atStart => exact ⟨0, by omega, by rw [HZ.out], HO1.out⟩
    case round =>
      obtain ⟨k, hk, rfl, hO⟩ := hrel
      by_cases hlt : k < xs.length
      · have hx := HX.out k hlt
        have HTe := Lib.hid (HTk.out k hlt)
        obtain ⟨z, hz⟩ : ∃ z : Nat, xs.getD k (-1) = z := ⟨(xs.getD k (-1)).toNat, by omega⟩
        rw [hz] at hx HTe
        simp only [hz]
        have hzn : z < c.ps.length := by omega
        have hbw := Hb.out z hzn
        have hbz : wr.cell? ⟨b, off + z, none⟩ = some (.int .i64 (c.ps.getD z 0)) := by
          rw [hO.toBelow.cell (World.block_lt_of_cell? w _ hbw)]; exact hbw
        obtain ⟨p, cap', rfl⟩ := row_slice hO
        have hfall := HT.out.fall z (by omega) (by omega)
        have hpar := hx.2.2
        rw [par, Int.toNat_natCast] at hpar hfall
        have HPR := Lib.hid hpar
        have HA := Lib.hid (hO.alloc (.cells #[.int .i64 z] 3))
        have HW := Lib.hid hbw
        have b1 : k + 1 ≤ maxLen := by unfold maxLen; omega
        have b2 : (k + 1) * 8 ≤ 140737488355328 := by omega
        clear hx hO hz hpar hbw hbz
        generalize c.ps.getD z 0 = q at *
        go_wp2_with (at_builtin; refine wpList_append_row rfl _ _ 22 rfl 3 i0 _ Tryz.underlying22 hi0 hz0 hz1 hz2 rfl (by decide) rfl HA.out ⟨wr.heap.size, 0, none⟩ 1 1 [.int .i64 z] rfl rfl (news_at wr [.int .i64 z] _ _ rfl) (by simp [Value.oneCell']) b1 b2 ?_; intro v' w1 hO hg hn; obtain ⟨p', cap', rfl⟩ := row_slice hO; have d6 : w1.cell? ⟨w.heap.size, 6, none⟩ = some (.slice (some ⟨b, off, none⟩) c.ps.length cp) := hO.swap.cell (i := 6) rfl; have hbz1 : w1.cell? ⟨b, off + z, none⟩ = some (.int .i64 q) := (hO.toBelow.cell (World.block_lt_of_cell? w _ HW.out)).trans HW.out; have HO2 := Lib.hid hO; clear hO hg hn)
        go_roundw
        case rel => exact ⟨k + 1, by omega, by rw [HPR.out], by rw [HTe.out, intC_snoc]; exact HO2.out⟩
        case measure => simp [intOf]; omega
      · have hke : k = xs.length := by omega
        subst hke
        rw [HEnd.out]
        obtain ⟨p, cap', rfl⟩ := row_slice hO
        have HO2 := Lib.hid (show Own w (fun _ => False) [row (.slice p xs.length cap') 3 1 xs.length (intC xs)] wr from by rw [List.take_length] at hO; exact hO.under fun _ _ h => h.drop)
        clear hO hlt
        go_wp2
        go_ret
        exact ⟨_, rfl, HO2.out⟩
  · rw [path_out v (by omega)]
    have HO1 := Lib.hid (HO.out.rowNil (e := 3) (size := 1))
    rcases (by omega : v < 0 ∨ (0 ≤ v ∧ (c.ps.length : Int) ≤ v)) with h1 | ⟨h1, h2⟩
    · clear hin
      go_enter Tryz.func72, Tryz.ntmps72
      go_wp2
      go_ret
      exact ⟨_, rfl, HO1.out.swap.drop⟩
    · clear hin
      go_enter Tryz.func72, Tryz.ntmps72
      go_wp2
      go_ret
      exact ⟨_, rfl, HO1.out.swap.drop⟩
end Go.Proofs.YtlpdafldabfiaaaGreat
end
section
namespace Go.Proofs.YtlpdafldabfiaaaGreat
open Go.ChangeShapes Go.WideShapes Go.ChangeAt Go.RowKit Go.Shelf
set_option maxRecDepth 100000
set_option linter.unusedVariables false
variable {w0 w w' : World} {F0 : Nat → Prop} {L : List Asn}
theorem rUnder_any (c : Cf) (ht : Tr c.ps) {vp vl : Value} (hp : IntsAt w .i64 vp c.ps) (hl : IntsAt w .i64 vl c.ls) (v b : Int) :
    Calls Tryz.prog 37 #[cfV c vp vl, .int .i64 v, .int .i64 b] w fun e w' => e = .returned (.bool (onB c.ps v b)) ∧ Below w.heap.size w w' := by
  obtain ⟨pp, cp, rfl⟩ := hp.slice
  obtain ⟨pl, cl, rfl⟩ := hl.slice
  have hO := (Own.start w).new (cfO c (.slice pp c.ps.length cp) (.slice pl c.ls.length cl))
  have HS := Lib.hid (rPath_any c ht (hp.below hO.toBelow) (hl.below hO.toBelow) v hO)
  have b2 := path_len12 ht v
  have HY := Lib.hid (show ∀ k, k < (path c.ps v).length ∧ (path c.ps v).getD k (-1) = b → onB c.ps v b = true from fun k hk => onB_iff.2 (on_get.2 ⟨k, hk.1, hk.2⟩))
  have HN := Lib.hid (show (∀ j, j < (path c.ps v).length → (path c.ps v).getD j (-1) ≠ b) → onB c.ps v b = false from fun h => by
    rw [Bool.eq_false_iff]; intro h'
    obtain ⟨k, hk, e⟩ := on_get.1 (onB_iff.1 h')
    exact h k hk e)
  clear hp hl hO
  go_enter Tryz.func37, Tryz.ntmps37
  go_wp2_with fail
  refine HS.out.mono ?_
  rintro e w1 ⟨u, rfl, hO⟩
  have hI := hO.intsAt
  obtain ⟨p, cap, rfl⟩ := row_slice hO
  have HB := Lib.hid hO.toBelow
  clear hO HS
  generalize path c.ps v = xs at *
  by_cases h0 : 0 < xs.length
  · obtain ⟨g, off, cap', he, hb⟩ := hI.at h0
    injection he with he1 he2 he3
    subst he1
    have Hb := Lib.hid hb
    clear hI he2 he3 hb
    go_wp2
    go_loop [8] (fun i => ∃ k : Nat, k ≤ xs.length ∧ i = .int .i64 k ∧ Hid (∀ j, j < k → xs.getD j (-1) ≠ b)) (fun i => xs.length - (intOf i).toNat)
    case atStart => exact ⟨0, by omega, rfl, Lib.hid (fun j hj => by omega)⟩
    case round =>
      obtain ⟨k, hk, rfl, HK⟩ := hrel
      by_cases hlt : k < xs.length
      · have hbk := Hb.out k hlt
        obtain ⟨z, hz⟩ : ∃ z, xs.getD k 0 = z := ⟨_, rfl⟩
        have hz2 : xs.getD k (-1) = z := by rw [← hz]; simp [List.getD, hlt]
        rw [hz] at hbk
        by_cases hx : z = b
        · have hF : (z == b) = true := by simp [hx]
          have HX := Lib.hid (HY.out k ⟨hlt, by rw [hz2, hx]⟩)
          clear hz hz2 hx
          go_wp2
          go_ret
          exact ⟨ret_bool HX.out.symm, HB.out⟩
        · have hF : (z == b) = false := by simp [hx]
          have HK2 := Lib.hid (show ∀ j, j < k + 1 → xs.getD j (-1) ≠ b from fun j hj => by
            rcases Nat.lt_or_eq_of_le (Nat.le_of_lt_succ hj) with h | rfl
            · exact HK.out j h
            · rw [hz2]; exact hx)
          clear hz hz2 hx
          go_wp2
          go_round
          case rel => exact ⟨k + 1, by omega, by go_num, HK2⟩
          case measure => simp [intOf]; omega
      · have HX := Lib.hid (HN.out (fun j hj => HK.out j (by omega)))
        have hke : k = xs.length := by omega
        subst hke
        clear hlt
        go_wp2
        go_ret
        exact ⟨ret_bool HX.out.symm, HB.out⟩
  · have h1 : xs.length = 0 := by omega
    have HX := Lib.hid (HN.out (fun j hj => by omega))
    rw [h1]
    clear h0 h1 hI
    go_wp2
    refine wp_loop_rounds 1 ?_
    rw [rounds_succ]
    go_wp2
    go_ret
    exact ⟨ret_bool HX.out.symm, HB.out⟩
theorem rLeaf_any (c : Cf) (h0 : 0 < c.ps.length) (hn : c.ps.length ≤ 140737488351232) {vp vl : Value} (hp : IntsAt w .i64 vp c.ps) (hl : IntsAt w .i64 vl c.ls) (v : Int) :
    Calls Tryz.prog 109 #[cfV c vp vl, .int .i64 v] w fun e w' => e = .returned (.bool (lfB c.ps v)) ∧ Below w.heap.size w w' := by
  obtain ⟨pp, cp, rfl⟩ := hp.slice
  obtain ⟨pl, cl, rfl⟩ := hl.slice
  have HO := Lib.hid ((Own.start w).new (cfO c (.slice pp c.ps.length cp) (.slice pl c.ls.length cl)))
  have HY := Lib.hid (show ∀ k, k < c.ps.length → c.ps.getD k 0 = v → lfB c.ps v = false from fun k hk e => lfB_no (fun h => h.2 (List.mem_iff_getElem.2 ⟨k, hk, by simpa [List.getD, hk] using e⟩)))
  have HN := Lib.hid (show (∀ j, j < c.ps.length → c.ps.getD j 0 ≠ v) → v ∉ c.ps from fun h hm => by
    obtain ⟨k, hk, e⟩ := List.mem_iff_getElem.1 hm
    exact h k hk (by simpa [List.getD, hk] using e))
  have HF1 := Lib.hid (show ∀ _ : ¬ (0 ≤ v ∧ v < c.ps.length), lfB c.ps v = false from fun h => lfB_no (fun h' => h h'.1))
  have HF2 := Lib.hid (show ∀ _ : 0 ≤ v ∧ v < c.ps.length, v ∉ c.ps → lfB c.ps v = true from fun h h' => lfB_iff.2 ⟨h, h'⟩)
  obtain ⟨g, off, cap', he, hb⟩ := hp.at h0
  injection he with he1 he2 he3
  subst he1
  have Hb := Lib.hid hb
  clear hp hl he2 he3 hb
  have d6 := Lib.hid (HO.out.cell (i := 6) rfl)
  go_enter Tryz.func109, Tryz.ntmps109
  go_wp2
  go_loopw [5] (fun i wr => ∃ k : Nat, k ≤ c.ps.length ∧ i = .int .i64 k ∧ Hid (∀ j, j < k → c.ps.getD j 0 ≠ v) ∧ Own w (fun _ => False) [blk w.heap.size (cfO c (.slice (some ⟨g, off, none⟩) c.ps.length cp) (.slice pl c.ls.length cl))] wr) (fun i _ => c.ps.length - (intOf i).toNat)
  case atStart => exact ⟨0, by omega, rfl, Lib.hid (fun j hj => by omega), HO.out⟩
  case round =>
    obtain ⟨k, hk, rfl, HK, hO⟩ := hrel
    have d6 : wr.cell? ⟨w.heap.size, 6, none⟩ = some (.slice (some ⟨g, off, none⟩) c.ps.length cp) := hO.cell (i := 6) rfl
    have HO2 := Lib.hid hO
    by_cases hlt : k < c.ps.length
    · have hbk : wr.cell? ⟨g, off + k, none⟩ = some (.int .i64 (c.ps.getD k 0)) := (hO.toBelow.cell (World.block_lt_of_cell? w _ (Hb.out k hlt))).trans (Hb.out k hlt)
      obtain ⟨z, hz⟩ : ∃ z, c.ps.getD k 0 = z := ⟨_, rfl⟩
      rw [hz] at hbk
      by_cases hx : z = v
      · have hF : (z == v) = true := by simp [hx]
        have HX := Lib.hid (HY.out k hlt (by rw [hz, hx]))
        clear hz hx hO
        go_wp2
        go_ret
        exact ⟨ret_bool HX.out.symm, HO2.out.toBelow⟩
      · have hF : (z == v) = false := by simp [hx]
        have HK2 := Lib.hid (show ∀ j, j < k + 1 → c.ps.getD j 0 ≠ v from fun j hj => by
          rcases Nat.lt_or_eq_of_le (Nat.le_of_lt_succ hj) with h | rfl
          · exact HK.out j h
          · rw [hz]; exact hx)
        clear hz hx hO
        go_wp2
        go_roundw
        case rel => exact ⟨k + 1, by omega, by go_num, HK2, HO2.out⟩
        case measure => simp [intOf]; omega
    · have HM := Lib.hid (HN.out (fun j hj => HK.out j (by omega)))
      have hke : k = c.ps.length := by omega
      subst hke
      clear hlt hO
      by_cases hin : 0 ≤ v ∧ v < c.ps.length
      · have HX := Lib.hid (HF2.out hin HM.out)
        obtain ⟨i1, i2⟩ := hin
        go_wp2
        go_ret
        exact ⟨ret_bool HX.out.symm, HO2.out.toBelow⟩
      · have HX := Lib.hid (HF1.out hin)
        rcases (by omega : v < 0 ∨ (0 ≤ v ∧ (c.ps.length : Int) ≤ v)) with i1 | ⟨i1, i2⟩
        · clear hin
          go_wp2
          go_ret
          exact ⟨ret_bool HX.out.symm, HO2.out.toBelow⟩
        · have hF : decide (v < (c.ps.length : Int)) = false := by simp; omega
          clear hin i2
          go_wp2
          go_ret
          exact ⟨ret_bool HX.out.symm, HO2.out.toBelow⟩
end Go.Proofs.YtlpdafldabfiaaaGreat
end
section
namespace Go.Proofs.YtlpdafldabfiaaaGreat
open Go.ChangeShapes Go.WideShapes Go.ChangeAt Go.RowKit
set_option linter.unusedVariables false
theorem size_setCell (w : World) (a : Addr) (v : Value) : (w.setCell a v).heap.size = w.heap.size := by simp [World.setCell]
theorem size_alloc (w : World) (o : Obj) : (w.alloc o).heap.size = w.heap.size + 1 := by simp
end Go.Proofs.YtlpdafldabfiaaaGreat
end
section
namespace Go.Proofs.YtlpdafldabfiaaaGreat
open Go.ChangeShapes Go.WideShapes Go.ChangeAt Go.RowKit
set_option maxRecDepth 100000
set_option linter.unusedVariables false
end Go.Proofs.YtlpdafldabfiaaaGreat
end
section
namespace Go.Proofs.YtlpdafldabfiaaaGreat
open Go.ChangeShapes Go.WideShapes Go.ChangeAt Go.RowKit Go.Shelf
set_option linter.unusedVariables false
end Go.Proofs.YtlpdafldabfiaaaGreat
end
