/- The document's answer to layer 4: paths, depths, who stands above whom, leaves. -/
import Derived.Test.YtnbifmkcdnfkhaaTreeRef
namespace Go.Proofs.Ytnbifmkcdnfkhaa
open Go.ChangeShapes Go.WideShapes Go.ChangeAt Go.RowKit Go.Shelf
set_option linter.unusedVariables false
variable {w0 w w' : World} {F0 : Nat → Prop} {L : List Asn}
theorem upF_take {ps : List Int} {v : Int} {k : Nat} (h : k < (path ps v).length) : (path ps v).take (k + 1) = (path ps v).take k ++ [(path ps v).getD k (-1)] := take_snoc h
theorem rPath_any (c : Cf) (ht : Tr c.ps) {vp vl : Value} (hp : IntsAt w .i64 vp c.ps) (hl : IntsAt w .i64 vl c.ls) (v : Int) (h : Own w0 F0 L w) :
    Calls Try.prog 15 #[cfV c vp vl, .int .i64 v] w (RetRow w0 F0 L 3 1 (path c.ps v).length (intC (path c.ps v))) := by
  refine Calls.mono (R := RetRow w (fun _ => False) [] 3 1 (path c.ps v).length (intC (path c.ps v))) ?_ fun e w' ⟨u, he, hO⟩ => ⟨u, he, h.lift hO⟩
  obtain ⟨pp, cp, rfl⟩ := hp.slice
  obtain ⟨pl, cl, rfl⟩ := hl.slice
  have HP := Lib.hid hp
  have HO := Lib.hid ((Own.start w).new (cfO c (.slice pp c.ps.length cp) (.slice pl c.ls.length cl)))
  have hn1 := ht.n1
  have hn0 := ht.n0
  clear hp hl h
  by_cases hin : 0 ≤ v ∧ v < c.ps.length
  · obtain ⟨h0, h1⟩ := hin
    have HX := Lib.hid (path_next ht v (by omega) h1)
    have HZ := Lib.hid (path_zero ht v h0 h1)
    have HN := Lib.hid (path_pos ht v h0 h1)
    have HT := Lib.hid ht
    have hl12 := path_len12 ht v
    have HTk := Lib.hid (fun k h => upF_take (ps := c.ps) (v := v) (k := k) h)
    have HEnd := Lib.hid (show (path c.ps v).getD (path c.ps v).length (-1) = -1 by simp [List.getD])
    obtain ⟨i0, hi0, hz0, hz1, hz2⟩ := info_parts Try.info_int
    have HO1 := Lib.hid (HO.out.rowNil (e := 3) (size := 1))
    obtain ⟨b, off, cap, he, hb⟩ := HP.out.at (by omega)
    injection he with he1 he2 he3
    subst he1
    have Hb := Lib.hid hb
    clear ht HO he2 he3 hb
    generalize path c.ps v = xs at *
    go_enter Try.func15, Try.ntmps15
    go_wp2
    go_loopw [5, 6] (fun r z wr => ∃ k : Nat, k ≤ xs.length ∧ z = .int .i64 (xs.getD k (-1)) ∧ Own w (fun _ => False) [row r 3 1 k (intC (xs.take k)), blk w.heap.size (cfO c (.slice (some ⟨b, off, none⟩) c.ps.length cp) (.slice pl c.ls.length cl))] wr) (fun _ z _ => (intOf z + 1).toNat)
    case atStart => exact ⟨0, by omega, by rw [HZ.out], HO1.out⟩
    case round =>
      obtain ⟨k, hk, rfl, hO⟩ := hrel
      by_cases hlt : k < xs.length
      · have hx := HX.out k hlt
        have HTe := Lib.hid (HTk.out k hlt)
        obtain ⟨z, hz⟩ : ∃ z : Nat, xs.getD k (-1) = z := ⟨(xs.getD k (-1)).toNat, by omega⟩
        rw [hz] at hx HTe
        simp only [hz]
        have hzn : z < c.ps.length := by omega
        have hbw := Hb.out z hzn
        have hbz : wr.cell? ⟨b, off + z, none⟩ = some (.int .i64 (c.ps.getD z 0)) := by
          rw [hO.toBelow.cell (World.block_lt_of_cell? w _ hbw)]; exact hbw
        obtain ⟨p, cap', rfl⟩ := row_slice hO
        have hfall := HT.out.fall z (by omega) (by omega)
        have hpar := hx.2.2
        rw [par, Int.toNat_natCast] at hpar hfall
        have HPR := Lib.hid hpar
        have HA := Lib.hid (hO.alloc (.cells #[.int .i64 z] 3))
        have HW := Lib.hid hbw
        have b1 : k + 1 ≤ maxLen := by unfold maxLen; omega
        have b2 : (k + 1) * 8 ≤ 140737488355328 := by omega
        clear hx hO hz hpar hbw hbz
        generalize c.ps.getD z 0 = q at *
        go_wp2_with (at_builtin; refine wpList_append_row rfl _ _ 22 rfl 3 i0 _ Try.underlying22 hi0 hz0 hz1 hz2 rfl (by decide) rfl HA.out ⟨wr.heap.size, 0, none⟩ 1 1 [.int .i64 z] rfl rfl (news_at wr [.int .i64 z] _ _ rfl) (by simp [Value.oneCell']) b1 b2 ?_; intro v' w1 hO hg hn; obtain ⟨p', cap', rfl⟩ := row_slice hO; have d6 : w1.cell? ⟨w.heap.size, 6, none⟩ = some (.slice (some ⟨b, off, none⟩) c.ps.length cp) := hO.swap.cell (i := 6) rfl; have hbz1 : w1.cell? ⟨b, off + z, none⟩ = some (.int .i64 q) := (hO.toBelow.cell (World.block_lt_of_cell? w _ HW.out)).trans HW.out; have HO2 := Lib.hid hO; clear hO hg hn)
        go_roundw
        case rel => exact ⟨k + 1, by omega, by rw [HPR.out], by rw [HTe.out, intC_snoc]; exact HO2.out⟩
        case measure => simp [intOf]; omega
      · have hke : k = xs.length := by omega
        subst hke
        rw [HEnd.out]
        obtain ⟨p, cap', rfl⟩ := row_slice hO
        have HO2 := Lib.hid (show Own w (fun _ => False) [row (.slice p xs.length cap') 3 1 xs.length (intC xs)] wr from by rw [List.take_length] at hO; exact hO.under fun _ _ h => h.drop)
        clear hO hlt
        go_wp2
        go_ret
        exact ⟨_, rfl, HO2.out⟩
  · rw [path_out v (by omega)]
    have HO1 := Lib.hid (HO.out.rowNil (e := 3) (size := 1))
    rcases (by omega : v < 0 ∨ (0 ≤ v ∧ (c.ps.length : Int) ≤ v)) with h1 | ⟨h1, h2⟩
    · clear hin
      go_enter Try.func15, Try.ntmps15
      go_wp2
      go_ret
      exact ⟨_, rfl, HO1.out.swap.drop⟩
    · clear hin
      go_enter Try.func15, Try.ntmps15
      go_wp2
      go_ret
      exact ⟨_, rfl, HO1.out.swap.drop⟩
end Go.Proofs.Ytnbifmkcdnfkhaa
