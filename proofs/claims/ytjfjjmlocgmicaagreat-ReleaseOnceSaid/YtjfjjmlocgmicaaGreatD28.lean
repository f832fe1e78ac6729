/- Texts of elder layers, one behind the other: TreeRef2, TreeRef3, RowMore, AddArg, AddBase, AskLaw, AskOf, PlanHead. -/
import Derived.Test.YtjfjjmlocgmicaaGreatD27
import Derived.Lib.QuietBelow
import Derived.BigQuiet
import Derived.Deep.QuietTactic
import Derived.Deep.RegionHeld3
section
namespace Go.Proofs.YtjfjjmlocgmicaaGreat
open Go.ChangeShapes Go.WideShapes Go.ChangeAt Go.RowKit Go.Shelf
set_option maxRecDepth 100000
set_option linter.unusedVariables false
variable {w0 w w' : World} {F0 : Nat → Prop} {L : List Asn}
theorem upF_take {ps : List Int} {v : Int} {k : Nat} (h : k < (path ps v).length) : (path ps v).take (k + 1) = (path ps v).take k ++ [(path ps v).getD k (-1)] := take_snoc h
theorem rPath_any (c : Cf) (ht : Tr c.ps) {vp vl : Value} (hp : IntsAt w .i64 vp c.ps) (hl : IntsAt w .i64 vl c.ls) (v : Int) (h : Own w0 F0 L w) :
    Calls Tryz.prog 74 #[cfV c vp vl, .int .i64 v] w (RetRow w0 F0 L 3 1 (path c.ps v).length (intC (path c.ps v))) := by
  refine Calls.mono (R := RetRow w (fun _ => False) [] 3 1 (path c.ps v).length (intC (path c.ps v))) ?_ fun e w' ⟨u, he, hO⟩ => ⟨u, he, h.lift hO⟩
  obtain ⟨pp, cp, rfl⟩ := hp.slice
  obtain ⟨pl, cl, rfl⟩ := hl.slice
  have HP := Lib.hid hp
  have HO := Lib.hid ((Own.start w).new (cfO c (.slice pp c.ps.length cp) (.slice pl c.ls.length cl)))
  have hn1 := ht.n1
  have hn0 := ht.n0
  clear hp hl h
  by_cases hin : 0 ≤ v ∧ v < c.ps.length
  · obtain ⟨h0, h1⟩ := hin
    have HX := Lib.hid (path_next ht v (by omega) h1)
    have HZ := Lib.hid (path_zero ht v h0 h1)
    have HN := Lib.hid (path_pos ht v h0 h1)
    have HT := Lib.hid ht
    have hl12 := path_len12 ht v
    have HTk := Lib.hid (fun k h => upF_take (ps := c.ps) (v := v) (k := k) h)
    have HEnd := Lib.hid (show (path c.ps v).getD (path c.ps v).length (-1) = -1 by simp [List.getD])
    obtain ⟨i0, hi0, hz0, hz1, hz2⟩ := info_parts Tryz.info_int
    have HO1 := Lib.hid (HO.out.rowNil (e := 3) (size := 1))
    obtain ⟨b, off, cap, he, hb⟩ := HP.out.at (by omega)
    injection he with he1 he2 he3
    subst he1
    have Hb := Lib.hid hb
    clear ht HO he2 he3 hb
    generalize path c.ps v = xs at *
    go_enter Tryz.func74, Tryz.ntmps74
    go_wp2
    go_loopw [5, 6] (fun r z wr => ∃ k : Nat, k ≤ xs.length ∧ z = .int .i64 (xs.getD k (-1)) ∧ Own w (fun _ => False) [row r 3 1 k (intC (xs.take k)), blk w.heap.size (cfO c (.slice (some ⟨b, off, none⟩) c.ps.length cp) (.slice pl c.ls.length cl))] wr) (fun _ z _ => (intOf z + 1).toNat)
    case atStart => exact ⟨0, by omega, by rw [HZ.out], HO1.out⟩
    case round =>
      obtain ⟨k, hk, rfl, hO⟩ := hrel
      by_cases hlt : k < xs.length
      · have hx := HX.out k hlt
        have HTe := Lib.hid (HTk.out k hlt)
        obtain ⟨z, hz⟩ : ∃ z : Nat, xs.getD k (-1) = z := ⟨(xs.getD k (-1)).toNat, by omega⟩
        rw [hz] at hx HTe
        simp only [hz]
        have hzn : z < c.ps.length := by omega
        have hbw := Hb.out z hzn
        have hbz : wr.cell? ⟨b, off + z, none⟩ = some (.int .i64 (c.ps.getD z 0)) := by
          rw [hO.toBelow.cell (World.block_lt_of_cell? w _ hbw)]; exact hbw
        obtain ⟨p, cap', rfl⟩ := row_slice hO
        have hfall := HT.out.fall z (by omega) (by omega)
        have hpar := hx.2.2
        rw [par, Int.toNat_natCast] at hpar hfall
        have HPR := Lib.hid hpar
        have HA := Lib.hid (hO.alloc (.cells #[.int .i64 z] 3))
        have HW := Lib.hid hbw
        have b1 : k + 1 ≤ maxLen := by unfold maxLen; omega
        have b2 : (k + 1) * 8 ≤ 140737488355328 := by omega
        clear hx hO hz hpar hbw hbz
        generalize c.ps.getD z 0 = q at *
        go_wp2_with (at_builtin; refine wpList_append_row rfl _ _ 22 rfl 3 i0 _ Tryz.underlying22 hi0 hz0 hz1 hz2 rfl (by decide) rfl HA.out ⟨wr.heap.size, 0, none⟩ 1 1 [.int .i64 z] rfl rfl (news_at wr [.int .i64 z] _ _ rfl) (by simp [Value.oneCell']) b1 b2 ?_; intro v' w1 hO hg hn; obtain ⟨p', cap', rfl⟩ := row_slice hO; have d6 : w1.cell? ⟨w.heap.size, 6, none⟩ = some (.slice (some ⟨b, off, none⟩) c.ps.length cp) := hO.swap.cell (i := 6) rfl; have hbz1 : w1.cell? ⟨b, off + z, none⟩ = some (.int .i64 q) := (hO.toBelow.cell (World.block_lt_of_cell? w _ HW.out)).trans HW.out; have HO2 := Lib.hid hO; clear hO hg hn)
        go_roundw
        case rel => exact ⟨k + 1, by omega, by rw [HPR.out], by rw [HTe.out, intC_snoc]; exact HO2.out⟩
        case measure => simp [intOf]; omega
      · have hke : k = xs.length := by omega
        subst hke
        rw [HEnd.out]
        obtain ⟨p, cap', rfl⟩ := row_slice hO
        have HO2 := Lib.hid (show Own w (fun _ => False) [row (.slice p xs.length cap') 3 1 xs.length (intC xs)] wr from by rw [List.take_length] at hO; exact hO.under fun _ _ h => h.drop)
        clear hO hlt
        go_wp2
        go_ret
        exact ⟨_, rfl, HO2.out⟩
  · rw [path_out v (by omega)]
    have HO1 := Lib.hid (HO.out.rowNil (e := 3) (size := 1))
    rcases (by omega : v < 0 ∨ (0 ≤ v ∧ (c.ps.length : Int) ≤ v)) with h1 | ⟨h1, h2⟩
    · clear hin
      go_enter Tryz.func74, Tryz.ntmps74
      go_wp2
      go_ret
      exact ⟨_, rfl, HO1.out.swap.drop⟩
    · clear hin
      go_enter Tryz.func74, Tryz.ntmps74
      go_wp2
      go_ret
      exact ⟨_, rfl, HO1.out.swap.drop⟩
end Go.Proofs.YtjfjjmlocgmicaaGreat
end
section
namespace Go.Proofs.YtjfjjmlocgmicaaGreat
open Go.ChangeShapes Go.WideShapes Go.ChangeAt Go.RowKit Go.Shelf
set_option maxRecDepth 100000
set_option linter.unusedVariables false
variable {w0 w w' : World} {F0 : Nat → Prop} {L : List Asn}
theorem rUnder_any (c : Cf) (ht : Tr c.ps) {vp vl : Value} (hp : IntsAt w .i64 vp c.ps) (hl : IntsAt w .i64 vl c.ls) (v b : Int) :
    Calls Tryz.prog 33 #[cfV c vp vl, .int .i64 v, .int .i64 b] w fun e w' => e = .returned (.bool (onB c.ps v b)) ∧ Below w.heap.size w w' := by
  obtain ⟨pp, cp, rfl⟩ := hp.slice
  obtain ⟨pl, cl, rfl⟩ := hl.slice
  have hO := (Own.start w).new (cfO c (.slice pp c.ps.length cp) (.slice pl c.ls.length cl))
  have HS := Lib.hid (rPath_any c ht (hp.below hO.toBelow) (hl.below hO.toBelow) v hO)
  have b2 := path_len12 ht v
  have HY := Lib.hid (show ∀ k, k < (path c.ps v).length ∧ (path c.ps v).getD k (-1) = b → onB c.ps v b = true from fun k hk => onB_iff.2 (on_get.2 ⟨k, hk.1, hk.2⟩))
  have HN := Lib.hid (show (∀ j, j < (path c.ps v).length → (path c.ps v).getD j (-1) ≠ b) → onB c.ps v b = false from fun h => by
    rw [Bool.eq_false_iff]; intro h'
    obtain ⟨k, hk, e⟩ := on_get.1 (onB_iff.1 h')
    exact h k hk e)
  clear hp hl hO
  go_enter Tryz.func33, Tryz.ntmps33
  go_wp2_with fail
  refine HS.out.mono ?_
  rintro e w1 ⟨u, rfl, hO⟩
  have hI := hO.intsAt
  obtain ⟨p, cap, rfl⟩ := row_slice hO
  have HB := Lib.hid hO.toBelow
  clear hO HS
  generalize path c.ps v = xs at *
  by_cases h0 : 0 < xs.length
  · obtain ⟨g, off, cap', he, hb⟩ := hI.at h0
    injection he with he1 he2 he3
    subst he1
    have Hb := Lib.hid hb
    clear hI he2 he3 hb
    go_wp2
    go_loop [8] (fun i => ∃ k : Nat, k ≤ xs.length ∧ i = .int .i64 k ∧ Hid (∀ j, j < k → xs.getD j (-1) ≠ b)) (fun i => xs.length - (intOf i).toNat)
    case atStart => exact ⟨0, by omega, rfl, Lib.hid (fun j hj => by omega)⟩
    case round =>
      obtain ⟨k, hk, rfl, HK⟩ := hrel
      by_cases hlt : k < xs.length
      · have hbk := Hb.out k hlt
        obtain ⟨z, hz⟩ : ∃ z, xs.getD k 0 = z := ⟨_, rfl⟩
        have hz2 : xs.getD k (-1) = z := by rw [← hz]; simp [List.getD, hlt]
        rw [hz] at hbk
        by_cases hx : z = b
        · have hF : (z == b) = true := by simp [hx]
          have HX := Lib.hid (HY.out k ⟨hlt, by rw [hz2, hx]⟩)
          clear hz hz2 hx
          go_wp2
          go_ret
          exact ⟨ret_bool HX.out.symm, HB.out⟩
        · have hF : (z == b) = false := by simp [hx]
          have HK2 := Lib.hid (show ∀ j, j < k + 1 → xs.getD j (-1) ≠ b from fun j hj => by
            rcases Nat.lt_or_eq_of_le (Nat.le_of_lt_succ hj) with h | rfl
            · exact HK.out j h
            · rw [hz2]; exact hx)
          clear hz hz2 hx
          go_wp2
          go_round
          case rel => exact ⟨k + 1, by omega, by go_num, HK2⟩
          case measure => simp [intOf]; omega
      · have HX := Lib.hid (HN.out (fun j hj => HK.out j (by omega)))
        have hke : k = xs.length := by omega
        subst hke
        clear hlt
        go_wp2
        go_ret
        exact ⟨ret_bool HX.out.symm, HB.out⟩
  · have h1 : xs.length = 0 := by omega
    have HX := Lib.hid (HN.out (fun j hj => by omega))
    rw [h1]
    clear h0 h1 hI
    go_wp2
    refine wp_loop_rounds 1 ?_
    rw [rounds_succ]
    go_wp2
    go_ret
    exact ⟨ret_bool HX.out.symm, HB.out⟩
theorem rLeaf_any (c : Cf) (h0 : 0 < c.ps.length) (hn : c.ps.length ≤ 140737488351232) {vp vl : Value} (hp : IntsAt w .i64 vp c.ps) (hl : IntsAt w .i64 vl c.ls) (v : Int) :
    Calls Tryz.prog 77 #[cfV c vp vl, .int .i64 v] w fun e w' => e = .returned (.bool (lfB c.ps v)) ∧ Below w.heap.size w w' := by
  obtain ⟨pp, cp, rfl⟩ := hp.slice
  obtain ⟨pl, cl, rfl⟩ := hl.slice
  have HO := Lib.hid ((Own.start w).new (cfO c (.slice pp c.ps.length cp) (.slice pl c.ls.length cl)))
  have HY := Lib.hid (show ∀ k, k < c.ps.length → c.ps.getD k 0 = v → lfB c.ps v = false from fun k hk e => lfB_no (fun h => h.2 (List.mem_iff_getElem.2 ⟨k, hk, by simpa [List.getD, hk] using e⟩)))
  have HN := Lib.hid (show (∀ j, j < c.ps.length → c.ps.getD j 0 ≠ v) → v ∉ c.ps from fun h hm => by
    obtain ⟨k, hk, e⟩ := List.mem_iff_getElem.1 hm
    exact h k hk (by simpa [List.getD, hk] using e))
  have HF1 := Lib.hid (show ∀ _ : ¬ (0 ≤ v ∧ v < c.ps.length), lfB c.ps v = false from fun h => lfB_no (fun h' => h h'.1))
  have HF2 := Lib.hid (show ∀ _ : 0 ≤ v ∧ v < c.ps.length, v ∉ c.ps → lfB c.ps v = true from fun h h' => lfB_iff.2 ⟨h, h'⟩)
  obtain ⟨g, off, cap', he, hb⟩ := hp.at h0
  injection he with he1 he2 he3
  subst he1
  have Hb := Lib.hid hb
  clear hp hl he2 he3 hb
  have d6 := Lib.hid (HO.out.cell (i := 6) rfl)
  go_enter Tryz.func77, Tryz.ntmps77
  go_wp2
  go_loopw [5] (fun i wr => ∃ k : Nat, k ≤ c.ps.length ∧ i = .int .i64 k ∧ Hid (∀ j, j < k → c.ps.getD j 0 ≠ v) ∧ Own w (fun _ => False) [blk w.heap.size (cfO c (.slice (some ⟨g, off, none⟩) c.ps.length cp) (.slice pl c.ls.length cl))] wr) (fun i _ => c.ps.length - (intOf i).toNat)
  case atStart => exact ⟨0, by omega, rfl, Lib.hid (fun j hj => by omega), HO.out⟩
  case round =>
    obtain ⟨k, hk, rfl, HK, hO⟩ := hrel
    have d6 : wr.cell? ⟨w.heap.size, 6, none⟩ = some (.slice (some ⟨g, off, none⟩) c.ps.length cp) := hO.cell (i := 6) rfl
    have HO2 := Lib.hid hO
    by_cases hlt : k < c.ps.length
    · have hbk : wr.cell? ⟨g, off + k, none⟩ = some (.int .i64 (c.ps.getD k 0)) := (hO.toBelow.cell (World.block_lt_of_cell? w _ (Hb.out k hlt))).trans (Hb.out k hlt)
      obtain ⟨z, hz⟩ : ∃ z, c.ps.getD k 0 = z := ⟨_, rfl⟩
      rw [hz] at hbk
      by_cases hx : z = v
      · have hF : (z == v) = true := by simp [hx]
        have HX := Lib.hid (HY.out k hlt (by rw [hz, hx]))
        clear hz hx hO
        go_wp2
        go_ret
        exact ⟨ret_bool HX.out.symm, HO2.out.toBelow⟩
      · have hF : (z == v) = false := by simp [hx]
        have HK2 := Lib.hid (show ∀ j, j < k + 1 → c.ps.getD j 0 ≠ v from fun j hj => by
          rcases Nat.lt_or_eq_of_le (Nat.le_of_lt_succ hj) with h | rfl
          · exact HK.out j h
          · rw [hz]; exact hx)
        clear hz hx hO
        go_wp2
        go_roundw
        case rel => exact ⟨k + 1, by omega, by go_num, HK2, HO2.out⟩
        case measure => simp [intOf]; omega
    · have HM := Lib.hid (HN.out (fun j hj => HK.out j (by omega)))
      have hke : k = c.ps.length := by omega
      subst hke
      clear hlt hO
      by_cases hin : 0 ≤ v ∧ v < c.ps.length
      · have HX := Lib.hid (HF2.out hin HM.out)
        obtain ⟨i1, i2⟩ := hin
        go_wp2
        go_ret
        exact ⟨ret_bool HX.out.symm, HO2.out.toBelow⟩
      · have HX := Lib.hid (HF1.out hin)
        rcases (by omega : v < 0 ∨ (0 ≤ v ∧ (c.ps.length : Int) ≤ v)) with i1 | ⟨i1, i2⟩
        · clear hin
          go_wp2
          go_ret
          exact ⟨ret_bool HX.out.symm, HO2.out.toBelow⟩
        · have hF : decide (v < (c.ps.length : Int)) = false := by simp; omega
          clear hin i2
          go_wp2
          go_ret
          exact ⟨ret_bool HX.out.symm, HO2.out.toBelow⟩
end Go.Proofs.YtjfjjmlocgmicaaGreat
end
section
namespace Go.Proofs.YtjfjjmlocgmicaaGreat
open Go.ChangeShapes Go.WideShapes Go.ChangeAt Go.RowKit
set_option linter.unusedVariables false
theorem size_setCell (w : World) (a : Addr) (v : Value) : (w.setCell a v).heap.size = w.heap.size := by simp [World.setCell]
theorem size_alloc (w : World) (o : Obj) : (w.alloc o).heap.size = w.heap.size + 1 := by simp
end Go.Proofs.YtjfjjmlocgmicaaGreat
end
section
namespace Go.Proofs.YtjfjjmlocgmicaaGreat
open Go.ChangeShapes Go.WideShapes Go.ChangeAt Go.RowKit
set_option maxRecDepth 100000
set_option linter.unusedVariables false
end Go.Proofs.YtjfjjmlocgmicaaGreat
end
section
namespace Go.Proofs.YtjfjjmlocgmicaaGreat
open Go.ChangeShapes Go.WideShapes Go.ChangeAt Go.RowKit Go.Shelf
set_option linter.unusedVariables false
theorem Own.intsN {w0 w : World} {F0 : Nat → Prop} {L : List Asn} {v : Value} {n : Nat} {zs : List Int} (h : Own w0 F0 (row v 3 1 n (intC zs) :: L) w) (hn : zs.length = n) : IntsAt w .i64 v zs := by
  subst hn; exact h.intsAt
end Go.Proofs.YtjfjjmlocgmicaaGreat
end
section
namespace Go.Proofs.YtjfjjmlocgmicaaGreat
open Go.ChangeShapes Go.WideShapes Go.ChangeAt Go.RowKit Go.Shelf
set_option linter.unusedVariables false
set_option linter.unusedSimpArgs false
set_option maxRecDepth 100000
variable {w0 w w' W : World} {F0 : Nat → Prop} {L : List Asn} {T : TypeId} {m : Nat} {ws : List Int} {lg : List Acc}
def akO (x : Ak) (vp vl vb va vk : Value) : Obj := .cells #[.int .i64 x.c.th, .int .i64 x.c.st, .int .i64 x.c.ga, .int .i64 x.c.le, .int .i64 x.c.re, .int .i64 x.c.ti, vp, vl, .int .u8 x.lf, .int .u32 x.n, .int .u16 x.th, vb, va, vk] 31 (0, 0)
theorem akCells {b : Nat} {x : Ak} {vp vl vb va vk : Value} (h : Own w0 F0 (blk b (akO x vp vl vb va vk) :: L) w) :
    w.cell? ⟨b, 0, none⟩ = some (.int .i64 x.c.th) ∧ w.cell? ⟨b, 1, none⟩ = some (.int .i64 x.c.st) ∧ w.cell? ⟨b, 2, none⟩ = some (.int .i64 x.c.ga) ∧ w.cell? ⟨b, 3, none⟩ = some (.int .i64 x.c.le) ∧ w.cell? ⟨b, 4, none⟩ = some (.int .i64 x.c.re) ∧ w.cell? ⟨b, 5, none⟩ = some (.int .i64 x.c.ti) ∧ w.cell? ⟨b, 6, none⟩ = some (vp) ∧ w.cell? ⟨b, 7, none⟩ = some (vl) ∧ w.cell? ⟨b, 8, none⟩ = some (.int .u8 x.lf) ∧ w.cell? ⟨b, 9, none⟩ = some (.int .u32 x.n) ∧ w.cell? ⟨b, 10, none⟩ = some (.int .u16 x.th) ∧ w.cell? ⟨b, 11, none⟩ = some (vb) ∧ w.cell? ⟨b, 12, none⟩ = some (va) ∧ w.cell? ⟨b, 13, none⟩ = some (vk) :=
  ⟨h.cell (i := 0) rfl, h.cell (i := 1) rfl, h.cell (i := 2) rfl, h.cell (i := 3) rfl, h.cell (i := 4) rfl, h.cell (i := 5) rfl, h.cell (i := 6) rfl, h.cell (i := 7) rfl, h.cell (i := 8) rfl, h.cell (i := 9) rfl, h.cell (i := 10) rfl, h.cell (i := 11) rfl, h.cell (i := 12) rfl, h.cell (i := 13) rfl⟩
structure GoodA (x : Ak) : Prop where
  rt : x.c.Rt
  b : x.bs.length ≤ 30
  a : x.av.length ≤ 30
  l : x.l.length ≤ 40
structure AkAt (W : World) (x : Ak) (vp vl vb va vk : Value) : Prop where
  wd : Wide x.c
  wf : x.Wf
  p : IntsAt W .i64 vp x.c.ps
  l : IntsAt W .i64 vl x.c.ls
  b : BlsAt W vb x.bs
  a : IntsAt W .u32 va x.av
  k : PksAt W vk x.l
theorem BlsAt.stp {v : Value} {zs : List Bool} (h : BlsAt W v zs) (hb : Stp W w) : BlsAt w v zs := by
  rcases h with h | ⟨h0, b, off, cap, e, hlt, hc⟩
  · exact Or.inl h
  · have hs : W.heap.size ≤ w.heap.size := hb.size
    exact Or.inr ⟨h0, b, off, cap, e, by omega, fun j hj => (Below.cell hb (p := ⟨b, off + j, none⟩) hlt).trans (hc j hj)⟩
theorem AkAt.stp {x : Ak} {vp vl vb va vk : Value} (h : AkAt W x vp vl vb va vk) (hb : Stp W w) : AkAt w x vp vl vb va vk := ⟨h.wd, h.wf, h.p.stp hb, h.l.stp hb, h.b.stp hb, h.a.stp hb, RowAt.below h.k hb⟩
section
variable {x : Ak} {pp pl pb pa pk : Option Addr} {cp cl cb ca ck : Nat}
set_option maxHeartbeats 1000000 in
theorem aGood_any (x : Ak) (b1 b2 b3 b4 : Bool) (hle : x.l.length ≤ 9223372036854775807) (hls : x.av.length ≤ 9223372036854775807) (hbs : x.bs.length ≤ 9223372036854775807)
    (HG : ∀ w, Calls Tryz.prog 36 #[cfV x.c (.slice pp x.c.ps.length cp) (.slice pl x.c.ls.length cl)] w fun e w' => e = .returned (.bool false) ∧ Below w.heap.size w w')
    (HR : ∀ w', Stp w w' → Calls Tryz.prog 37 #[cfV x.c (.slice pp x.c.ps.length cp) (.slice pl x.c.ls.length cl)] w' fun e w'' => e = .returned (.bool b1) ∧ Below w'.heap.size w' w'')
    (h2 : decide ((x.bs.length : Int) ≤ 30) = b2) (h3 : decide ((x.av.length : Int) ≤ 30) = b3) (h4 : decide ((x.l.length : Int) ≤ 40) = b4) :
    Calls Tryz.prog 10 #[akV x (.slice pp x.c.ps.length cp) (.slice pl x.c.ls.length cl) (.slice pb x.bs.length cb) (.slice pa x.av.length ca) (.slice pk x.l.length ck)] w fun e w' => e = .returned (.bool (b1 && b2 && b3 && b4)) ∧ Below w.heap.size w w' := by
  have HG := fun w => Lib.hid (HG w)
  have HR := fun w' h => Lib.hid (HR w' h)
  have hS := (Own.start w).new (akO x (.slice pp x.c.ps.length cp) (.slice pl x.c.ls.length cl) (.slice pb x.bs.length cb) (.slice pa x.av.length ca) (.slice pk x.l.length ck))
  obtain ⟨d0, d1, d2, d3, d4, d5, d6, d7, d8, d9, d10, d11, d12, d13⟩ := akCells hS
  unfold akV
  go_enter Tryz.func10, Tryz.ntmps10
  go_wp2_with fail
  refine (HG _).out.mono ?_
  rintro e w1 ⟨rfl, hB⟩
  have hS1 := hS.below hB
  clear hB hS HG d0 d1 d2 d3 d4 d5 d6 d7 d8 d9 d10 d11 d12 d13
  obtain ⟨d0, d1, d2, d3, d4, d5, d6, d7, d8, d9, d10, d11, d12, d13⟩ := akCells hS1
  go_wp2_with fail
  refine (HR _ hS1.toBelow).out.mono ?_
  rintro e w2 ⟨rfl, hB⟩
  have hS2 := hS1.below hB
  clear hB hS1 HR d0 d1 d2 d3 d4 d5 d6 d7 d8 d9 d10 d11 d12 d13
  obtain ⟨d0, d1, d2, d3, d4, d5, d6, d7, d8, d9, d10, d11, d12, d13⟩ := akCells hS2
  have HB := Lib.hid hS2.toBelow
  clear hS2
  cases b1 <;> cases b2 <;> cases b3 <;> cases b4
  all_goals
    go_wp2_with fail
    go_ret
    exact ⟨rfl, HB.out⟩
theorem aGood_great (x : Ak)
    (HG : ∀ w, Calls Tryz.prog 36 #[cfV x.c (.slice pp x.c.ps.length cp) (.slice pl x.c.ls.length cl)] w fun e w' => e = .returned (.bool true) ∧ Below w.heap.size w w') :
    Calls Tryz.prog 10 #[akV x (.slice pp x.c.ps.length cp) (.slice pl x.c.ls.length cl) (.slice pb x.bs.length cb) (.slice pa x.av.length ca) (.slice pk x.l.length ck)] w fun e w' => e = .returned (.bool false) ∧ Below w.heap.size w w' := by
  have HG := fun w => Lib.hid (HG w)
  have hS := (Own.start w).new (akO x (.slice pp x.c.ps.length cp) (.slice pl x.c.ls.length cl) (.slice pb x.bs.length cb) (.slice pa x.av.length ca) (.slice pk x.l.length ck))
  obtain ⟨d0, d1, d2, d3, d4, d5, d6, d7, d8, d9, d10, d11, d12, d13⟩ := akCells hS
  unfold akV
  go_enter Tryz.func10, Tryz.ntmps10
  go_wp2_with fail
  refine (HG _).out.mono ?_
  rintro e w1 ⟨rfl, hB⟩
  have HB := Lib.hid (hS.below hB).toBelow
  clear hB hS HG d0 d1 d2 d3 d4 d5 d6 d7 d8 d9 d10 d11 d12 d13
  go_wp2_with fail
  go_ret
  exact ⟨rfl, HB.out⟩
end
theorem aGood_yes {x : Ak} {vp vl vb va vk : Value} (H : AkAt w x vp vl vb va vk) (hg : GoodA x) :
    Calls Tryz.prog 10 #[akV x vp vl vb va vk] w fun e w' => e = .returned (.bool true) ∧ Below w.heap.size w w' := by
  have hr := hg.rt
  have hwf := H.wd.wf (by have := hr.n1; omega) (by have := hr.n1; have := hr.ll; omega)
  have hp := H.p
  have hl := H.l
  obtain ⟨pp, cp, rfl⟩ := hp.slice
  obtain ⟨pl, cl, rfl⟩ := hl.slice
  obtain ⟨pb, cb, rfl⟩ := H.b.slice
  obtain ⟨pa, ca, rfl⟩ := H.a.slice
  obtain ⟨pk, ck, rfl⟩ := RowAt.slice H.k
  have h2 := hg.b
  have h3 := hg.a
  have h4 := hg.l
  exact aGood_any x true true true true (by omega) (by omega) (by omega) (fun w => Great_no x.c (by have := hr.n1; omega) (by have := hr.n1; have := hr.ll; omega) w) (fun w' hb => by rw [← rtB_yes hr]; exact rRight_any x.c hwf (hp.stp hb) (hl.stp hb)) (by simp; omega) (by simp; omega) (by simp; omega)
theorem aGood_no {x : Ak} {vp vl vb va vk : Value} (H : AkAt w x vp vl vb va vk) (hg : ¬ GoodA x) :
    Calls Tryz.prog 10 #[akV x vp vl vb va vk] w fun e w' => e = .returned (.bool false) ∧ Below w.heap.size w w' := by
  have hp := H.p
  have hl := H.l
  have hm1 := H.wf.lm
  have hm2 := H.wf.am
  have hm3 := H.wf.bm
  unfold maxLen at hm1 hm2 hm3
  have hwd := H.wd
  obtain ⟨pp, cp, rfl⟩ := hp.slice
  obtain ⟨pl, cl, rfl⟩ := hl.slice
  obtain ⟨pb, cb, rfl⟩ := H.b.slice
  obtain ⟨pa, ca, rfl⟩ := H.a.slice
  obtain ⟨pk, ck, rfl⟩ := RowAt.slice H.k
  by_cases hlen : x.c.ps.length ≤ 100 ∧ x.c.ls.length ≤ 100
  · have hwf := hwd.wf hlen.1 hlen.2
    have h := aGood_any (w := w) (pp := pp) (pl := pl) (pb := pb) (pa := pa) (pk := pk) (cp := cp) (cl := cl) (cb := cb) (ca := ca) (ck := ck) x (rtB x.c) (decide ((x.bs.length : Int) ≤ 30)) (decide ((x.av.length : Int) ≤ 30)) (decide ((x.l.length : Int) ≤ 40)) (by omega) (by omega) (by omega) (fun w => Great_no x.c hlen.1 hlen.2 w) (fun w' hb => rRight_any x.c hwf (hp.stp hb) (hl.stp hb)) rfl rfl rfl
    have hf : (rtB x.c && decide ((x.bs.length : Int) ≤ 30) && decide ((x.av.length : Int) ≤ 30) && decide ((x.l.length : Int) ≤ 40)) = false := by
      rw [Bool.eq_false_iff]
      intro ht
      simp only [Bool.and_eq_true, decide_eq_true_eq] at ht
      exact hg ⟨rtB_iff.1 ht.1.1.1, by omega, by omega, by omega⟩
    rw [hf] at h
    exact h
  · exact aGood_great x (fun w => Great_yes x.c hwd.pn hwd.ln (by omega) w)
def lvK (ps : List Int) : Nat → List Int
  | 0 => []
  | k + 1 => lvK ps k ++ if lfB ps k = true then [(k : Int)] else []
theorem lvK_len (ps : List Int) : ∀ k, (lvK ps k).length ≤ k
  | 0 => by simp [lvK]
  | k + 1 => by
    have := lvK_len ps k
    rw [lvK, List.length_append]
    split <;> simp <;> omega
theorem lvK_leaf (ps : List Int) : ∀ k z, z ∈ lvK ps k → lfB ps z = true ∧ 0 ≤ z ∧ z < (k : Int)
  | 0, z, h => by simp [lvK] at h
  | k + 1, z, h => by
    rw [lvK, List.mem_append] at h
    rcases h with h | h
    · have := lvK_leaf ps k z h; exact ⟨this.1, this.2.1, by omega⟩
    · split at h
      · rename_i hb
        obtain rfl : z = (k : Int) := by simpa using h
        exact ⟨hb, by omega, by omega⟩
      · simp at h
theorem lvK_mem (ps : List Int) (z : Nat) (hz : lfB ps z = true) : ∀ k, z < k → (z : Int) ∈ lvK ps k
  | 0, h => by omega
  | k + 1, h => by
    rw [lvK, List.mem_append]
    by_cases e : z = k
    · subst e; right; rw [if_pos hz]; simp
    · left; exact lvK_mem ps z hz k (by omega)
def lfOf (c : Cf) (n : Nat) : Int := (lvK c.ps c.ps.length).getD (n % (lvK c.ps c.ps.length).length) 0
theorem lvK_pos {c : Cf} (hr : c.Rt) : 0 < (lvK c.ps c.ps.length).length := by
  have hl := last_leaf hr.tr
  have h0 := hr.n0
  have hb : lfB c.ps ((c.ps.length - 1 : Nat) : Int) = true := by
    rw [show ((c.ps.length - 1 : Nat) : Int) = (c.ps.length : Int) - 1 by omega]
    unfold lfB
    simp only [Bool.and_eq_true, decide_eq_true_eq, Bool.not_eq_true', decide_eq_false_iff_not]
    exact ⟨hl.1, hl.2⟩
  exact List.length_pos_of_mem (lvK_mem c.ps _ hb c.ps.length (by omega))
theorem lfOf_bd {c : Cf} (hr : c.Rt) (n : Nat) : lfB c.ps (lfOf c n) = true ∧ 0 ≤ lfOf c n ∧ lfOf c n < (c.ps.length : Int) := by
  have hp := lvK_pos hr
  have hm := Nat.mod_lt n hp
  refine lvK_leaf c.ps c.ps.length _ ?_
  unfold lfOf
  simp [List.getD, hm]
set_option maxHeartbeats 2000000 in
theorem aLeaf_any (c : Cf) (hr : c.Rt) {vp vl : Value} (hp : IntsAt w .i64 vp c.ps) (hl : IntsAt w .i64 vl c.ls) (n : Nat) (n1 : n ≤ 1000000) :
    Calls Tryz.prog 38 #[cfV c vp vl, .int .i64 n] w fun e w' => e = .returned (.int .i64 (lfOf c n)) ∧ Below w.heap.size w w' := by
  have hpos := lvK_pos hr
  have hn0 := hr.n0
  have hn1 := hr.n1
  have HL := fun (k : Nat) w' (hs : Stp w w') => Lib.hid (rLeaf_any (w := w') c (by omega) (by omega) (hp.stp hs) (hl.stp hs) (k : Int))
  have Hlv := Lib.hid (show ∀ k, lvK c.ps (k + 1) = lvK c.ps k ++ if lfB c.ps k = true then [(k : Int)] else [] from fun _ => rfl)
  have Hlen := Lib.hid (lvK_len c.ps)
  have Hof := Lib.hid (show lfOf c n = (lvK c.ps c.ps.length).getD (n % (lvK c.ps c.ps.length).length) 0 from rfl)
  rw [Hof.out]
  obtain ⟨pp, cp, rfl⟩ := hp.slice
  obtain ⟨pl, cl, rfl⟩ := hl.slice
  clear hr Hof
  have Hl0 := Lib.hid (show lvK c.ps 0 = [] from rfl)
  generalize lvK c.ps = lv at *
  obtain ⟨Y, hY⟩ : ∃ Y, Y = (lv c.ps.length).getD (n % (lv c.ps.length).length) 0 := ⟨_, rfl⟩
  rw [← hY]
  have HY := Lib.hid hY
  clear hY
  obtain ⟨i0, hi0, hz0, hz1, hz2⟩ := info_parts Tryz.info_int
  have h1 : Own w NoF (row (.slice none 0 0) 3 1 0 (intC (lv 0)) :: blk w.heap.size (cfO c (.slice pp c.ps.length cp) (.slice pl c.ls.length cl)) :: []) (w.alloc (cfO c (.slice pp c.ps.length cp) (.slice pl c.ls.length cl))) := by
    rw [Hl0.out]; exact Own.rowNil ((Own.start w).new (cfO c (.slice pp c.ps.length cp) (.slice pl c.ls.length cl)))
  have H1 := Lib.hid h1
  clear h1 hp hl
  go_enter Tryz.func38, Tryz.ntmps38
  go_wp2_with fail
  go_loopw [5, 6] (fun o i wr => ∃ (k : Nat) (p : Option Addr) (q : Nat), k ≤ c.ps.length ∧ i = .int .i64 k ∧ o = .slice p (lv k).length q ∧ Own w NoF (row (.slice p (lv k).length q) 3 1 (lv k).length (intC (lv k)) :: blk w.heap.size (cfO c (.slice pp c.ps.length cp) (.slice pl c.ls.length cl)) :: []) wr) (fun _ i _ => c.ps.length - (intOf i).toNat)
  case atStart => exact ⟨0, none, 0, Nat.zero_le _, rfl, by rw [Hl0.out]; rfl, by rw [Hl0.out]; simpa [Hl0.out] using H1.out⟩
  case round =>
    obtain ⟨k, p, q, hk, rfl, rfl, hO⟩ := hrel
    clear H1
    obtain ⟨d0, d1, d2, d3, d4, d5, d6, d7⟩ := conf_cells hO.swap
    by_cases hlt : k < c.ps.length
    · have hkl := Hlen.out k
      have m1 : (lv k).length + 1 ≤ maxLen := by unfold maxLen; omega
      have m2 : ((lv k).length + 1) * 8 ≤ 140737488355328 := by omega
      have HLk := HL k _ hO.toBelow
      obtain ⟨l2, hl2x⟩ : ∃ l2, l2 = lv (k + 1) := ⟨_, rfl⟩
      have Hnx := Lib.hid (show l2 = lv k ++ if lfB c.ps k = true then [(k : Int)] else [] from by rw [hl2x]; exact Hlv.out k)
      have HX := Lib.hid hl2x
      clear hl2x
      have g1 : (k : Int) < (c.ps.length : Int) := by omega
      have HO := Lib.hid hO
      clear hO Hlv HL Hlen
      generalize lfB c.ps k = bb at *
      generalize lv k = l1 at *
      cases bb with
      | true =>
        go_wp2_with fail
        refine HLk.out.mono ?_
        rintro e w1 ⟨rfl, hB⟩
        have hO := HO.out.below hB
        clear HO HLk hB d0 d1 d2 d3 d4 d5 d6 d7
        go_wp2_with (first | (at_builtin; refine wpList_append_row rfl (.tmp 17) (.tmp 19) 22 rfl 3 i0 _ Tryz.underlying22 hi0 hz0 hz1 hz2 rfl (by decide) rfl (hO.alloc (.cells #[.int .i64 k] 3)) ⟨w1.heap.size, 0, none⟩ 1 1 [.int .i64 k] rfl rfl (news_at w1 [.int .i64 k] _ _ rfl) (by simp [Value.oneCell']) m1 m2 ?_; intro v' wA hO2 hg hn; obtain ⟨p3, q3, rfl⟩ := row_slice hO2))
        have e2 : l2 = l1 ++ [(k : Int)] := Hnx.out
        have hl2 : l2.length = l1.length + 1 := by rw [e2]; simp
        have hO3 : Own w NoF (row (.slice p3 l2.length q3) 3 1 l2.length (intC l2) :: blk w.heap.size (cfO c (.slice pp c.ps.length cp) (.slice pl c.ls.length cl)) :: []) wA := by
          rw [hl2, e2, show intC (l1 ++ [(k : Int)]) = intC l1 ++ [.int .i64 k] by simp [intC]]
          exact hO2
        have HO3 := Lib.hid hO3
        have Hl2 := Lib.hid hl2
        clear hO hO2 hO3 hl2 e2 Hnx hg hn
        go_roundw
        case rel => exact ⟨k + 1, p3, q3, by omega, by go_num, by rw [← HX.out, Hl2.out], by rw [← HX.out]; exact HO3.out⟩
        case measure => simp [intOf]; omega
      | false =>
        go_wp2_with fail
        refine HLk.out.mono ?_
        rintro e w1 ⟨rfl, hB⟩
        have hO := HO.out.below hB
        have e2 : l2 = l1 := by rw [Hnx.out]; simp
        have HO3 := Lib.hid hO
        clear HO HLk hB hO d0 d1 d2 d3 d4 d5 d6 d7
        subst e2
        go_wp2_with fail
        go_roundw
        case rel => exact ⟨k + 1, p, q, by omega, by go_num, by rw [← HX.out], by rw [← HX.out]; exact HO3.out⟩
        case measure => simp [intOf]; omega
    · obtain rfl : k = c.ps.length := by omega
      clear HL Hlv Hl0
      generalize lv c.ps.length = l1 at *
      have hI := hO.intsAt
      obtain ⟨b3, o3, c3, e3, hc3⟩ := hI.at hpos
      injection e3 with e3 _ e4
      subst e3
      have hj := Nat.mod_lt n hpos
      have x0 := hc3 _ hj
      rw [← HY.out] at x0
      have e5 : (n : Int).tmod (l1.length : Int) = ((n % l1.length : Nat) : Int) := by rw [Int.tmod_eq_emod_of_nonneg (Int.natCast_nonneg n)]; exact (Int.natCast_emod n l1.length).symm
      have g1 : ¬ (l1.length : Int) = 0 := by omega
      have g2 : ((l1.length : Int) == 0) = false := by rw [beq_eq_false_iff_ne]; exact g1
      have g3 : ((n % l1.length : Nat) : Int) < (l1.length : Int) := Int.ofNat_lt.2 hj
      have HB := Lib.hid hO.toBelow
      clear hI hc3 hO Hlen HY
      generalize n % l1.length = j at *
      go_wp2_with fail
      go_ret
      exact ⟨rfl, HB.out⟩
def Ak.v (x : Ak) : Nat := (lfOf x.c x.lf.toNat).toNat
def Ak.k (x : Ak) : Int := x.n % 1048576 + 1
def Ak.t (x : Ak) : Nat := (x.th % 1001).toNat
theorem Ak.v_bd {x : Ak} (hr : x.c.Rt) : x.v < x.c.ps.length ∧ (x.v : Int) = lfOf x.c x.lf.toNat := by
  have := (lfOf_bd hr x.lf.toNat).2
  unfold Ak.v; omega
end Go.Proofs.YtjfjjmlocgmicaaGreat
end
section
namespace Go.Proofs.YtjfjjmlocgmicaaGreat
open Go.ChangeShapes Go.WideShapes Go.ChangeAt Go.RowKit Go.Shelf
set_option linter.unusedVariables false
set_option linter.unusedSimpArgs false
set_option maxRecDepth 100000
variable {w0 w w' W : World} {F0 : Nat → Prop} {L : List Asn} {T : TypeId} {m : Nat} {ws : List Int} {lg : List Acc}
end Go.Proofs.YtjfjjmlocgmicaaGreat
end
section
namespace Go.Proofs.YtjfjjmlocgmicaaGreat
open Go.ChangeShapes Go.WideShapes Go.ChangeAt Go.RowKit Go.Shelf
set_option linter.unusedVariables false
variable {w0 w w' W : World} {F0 : Nat → Prop} {L : List Asn} {b : Nat} {c : Cf} {pp pl : Option Addr} {np nl cp cl : Nat} {vp vl : Value}
def baseW : List Int := [20, 20, 0, 0, 0, 0, 0, 1, 0, 0, 10, 10, 0, 0, 0, 0, 0, 1, 0, 0, 8, 8, 0, 0, 0, 0, 0, 1, 0, 0, 5, 5, 0, 0, 0, 0, 0, 1, 0, 0, 0, 0, 0, 0, 0, 0]
theorem base_fresh : freshW baseC 4 = baseW := by decide +kernel
theorem IntsAt.cell {k : IntKind} {b off n cap : Nat} {zs : List Int} (h : IntsAt w k (.slice (some ⟨b, off, none⟩) n cap) zs) (j : Nat) (hj : j < zs.length) : w.cell? ⟨b, off + j, none⟩ = some (.int k (zs.getD j 0)) := by
  obtain ⟨b', off', cap', he, hc⟩ := h.at (by omega)
  injection he with he1 he2 he3
  injection he1 with he1
  injection he1 with he4 he5 he6
  subst he4 he5
  exact hc j hj
end Go.Proofs.YtjfjjmlocgmicaaGreat
end
