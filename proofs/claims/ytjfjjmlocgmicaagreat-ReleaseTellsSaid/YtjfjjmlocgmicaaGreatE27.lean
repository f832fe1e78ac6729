/- Texts of elder layers, one behind the other: AskArg, TreeUp3, TreeEnd, TreeRef, TreeRef2, TreeRef3, RowMore, AddArg, AddBase. -/
import Derived.Test.YtjfjjmlocgmicaaGreatE20
import Derived.Test.YtjfjjmlocgmicaaGreatE26
import Derived.Deep.DeepCutAuto
import Derived.Lib.QuietBelow
import Derived.BigQuiet
import Derived.Deep.QuietTactic
import Derived.Deep.RegionHeld3
section
namespace Go.Proofs.YtjfjjmlocgmicaaGreat
open Go.ChangeShapes Go.WideShapes Go.ChangeAt Go.RowKit Go.Deep
set_option maxRecDepth 100000
set_option linter.unusedVariables false
theorem bools_of {H : Type} {enc : TypeId × Value → H} {W : World} {t e : TypeId} {v : Value} {x : DataW H × List MemPlace} {fuel : Nat}
    (ht : Tryz.prog.underlying t = some (.slice e)) (he : Tryz.prog.underlying e = some .bool) (hc : Tryz.prog.cellsOf e = 1)
    (hf : DataW.trod enc Tryz.prog W 0 (fun _ => true) true fuel t [v] = some x) (hlt : ∀ y ∈ x.2, y.block < W.heap.size) :
    ∃ zs : List Bool, zs.length ≤ maxLen ∧ BlsAt W v zs := by
  rcases Go.Deep.open_bools ht he hc hf with ⟨hcs, hx⟩ | ⟨a, len', cap', B, hcs, _, hl, hm, hx, hcell⟩
  · simp at hcs
    subst hcs
    exact ⟨[], by simp, Or.inl ⟨rfl, _, _, rfl⟩⟩
  · simp at hcs
    subst hcs
    subst hx
    refine ⟨(List.range len').map B, by simp; omega, ?_⟩
    by_cases hl0 : len' = 0
    · subst hl0
      exact Or.inl ⟨by simp, _, _, rfl⟩
    · obtain ⟨b, off, spot⟩ := a
      have hspot : spot = none := by simpa [Addr.add] using World.cell?_spot (hcell 0 (by omega))
      subst hspot
      have hbW : b < W.heap.size := hlt (.cell b off) (MemPlace.mem_row.2 ⟨0, by omega, by simp⟩)
      refine Or.inr ⟨by simp; omega, b, off, cap', by simp, hbW, fun j hj => ?_⟩
      rw [← add_plain, hcell j (by simp at hj; omega)]
      simp at hj
      simp [List.getD, hj]
structure Ak where
  c : Cf
  lf : Int
  n : Int
  th : Int
  bs : List Bool
  av : List Int
  l : List Pk
structure Ak.Wf (x : Ak) : Prop where
  d0 : 0 ≤ x.lf
  d1 : x.lf ≤ 255
  n0 : 0 ≤ x.n
  n1 : x.n ≤ 4294967295
  t0 : 0 ≤ x.th
  t1 : x.th ≤ 65535
  bm : x.bs.length ≤ maxLen
  av : ∀ i, i < x.av.length → 0 ≤ x.av.getD i 0 ∧ x.av.getD i 0 ≤ 4294967295
  am : x.av.length ≤ maxLen
  l : ∀ p ∈ x.l, I64 p.at_ ∧ I64 p.w ∧ I64 p.x
  lm : x.l.length ≤ maxLen
def akV (x : Ak) (vp vl vb va vk : Value) : Value := .agg #[.int .i64 x.c.th, .int .i64 x.c.st, .int .i64 x.c.ga, .int .i64 x.c.le, .int .i64 x.c.re, .int .i64 x.c.ti, vp, vl, .int .u8 x.lf, .int .u32 x.n, .int .u16 x.th, vb, va, vk]
theorem ak_at {H : Type} {enc : TypeId × Value → H} {W : World} {base : Nat} {v : Value} {d : DataW H} {ps : List MemPlace}
    (hval : Value.okWide Tryz.prog W .any base 31 v) (h : DataW.Trod enc Tryz.prog W 0 (fun _ => true) true 31 v d ps) (hlt : ∀ x ∈ ps, x.block < W.heap.size) :
    ∃ (x : Ak) (vp vl vb va vk : Value), v = akV x vp vl vb va vk ∧ Wide x.c ∧ x.Wf ∧ IntsAt W .i64 vp x.c.ps ∧ IntsAt W .i64 vl x.c.ls ∧ BlsAt W vb x.bs ∧ IntsAt W .u32 va x.av ∧ PksAt W vk x.l := by
  have hS := Tryz.underlying31
  have k_uint8 : Tryz.prog.cellsOf 5 = 1 := by kernel_rfl
  have k_uint16 : Tryz.prog.cellsOf 26 = 1 := by kernel_rfl
  have k_uint32 : Tryz.prog.cellsOf 25 = 1 := by kernel_rfl
  have k_bool : Tryz.prog.cellsOf 4 = 1 := by kernel_rfl
  have k_sbool : Tryz.prog.cellsOf 27 = 1 := by kernel_rfl
  have k_suint32 : Tryz.prog.cellsOf 28 = 1 := by kernel_rfl
  have k_spk : Tryz.prog.cellsOf 29 = 1 := by kernel_rfl
  have k_conf : Tryz.prog.cellsOf 24 = 8 := by kernel_rfl
  have kS : Tryz.prog.cellsOf 31 = 14 := by kernel_rfl
  obtain ⟨cs, rfl, hsz⟩ := okWide_struct hS hval
  obtain ⟨c0, c1, c2, c3, c4, c5, c6, c7, c8, c9, c10, c11, c12, c13, rfl⟩ := array14 (hsz.trans kS)
  obtain ⟨fuel, hf⟩ := h
  obtain ⟨xs, n, _, hx, _, hlen, hfld⟩ := DataW.trod_struct hS hf
  have f0 : DataW.trod enc Tryz.prog W 0 (fun _ => true) true n 24 [c0, c1, c2, c3, c4, c5, c6, c7] = xs[0]? := by have := hfld 0 _ rfl; simpa [k_uint8, k_uint16, k_uint32, k_sbool, k_suint32, k_spk, k_conf, Value.cells] using this
  have f1 : DataW.trod enc Tryz.prog W 0 (fun _ => true) true n 5 [c8] = xs[1]? := by have := hfld 1 _ rfl; simpa [k_uint8, k_uint16, k_uint32, k_sbool, k_suint32, k_spk, k_conf, Value.cells] using this
  have f2 : DataW.trod enc Tryz.prog W 0 (fun _ => true) true n 25 [c9] = xs[2]? := by have := hfld 2 _ rfl; simpa [k_uint8, k_uint16, k_uint32, k_sbool, k_suint32, k_spk, k_conf, Value.cells] using this
  have f3 : DataW.trod enc Tryz.prog W 0 (fun _ => true) true n 26 [c10] = xs[3]? := by have := hfld 3 _ rfl; simpa [k_uint8, k_uint16, k_uint32, k_sbool, k_suint32, k_spk, k_conf, Value.cells] using this
  have f4 : DataW.trod enc Tryz.prog W 0 (fun _ => true) true n 27 [c11] = xs[4]? := by have := hfld 4 _ rfl; simpa [k_uint8, k_uint16, k_uint32, k_sbool, k_suint32, k_spk, k_conf, Value.cells] using this
  have f5 : DataW.trod enc Tryz.prog W 0 (fun _ => true) true n 28 [c12] = xs[5]? := by have := hfld 5 _ rfl; simpa [k_uint8, k_uint16, k_uint32, k_sbool, k_suint32, k_spk, k_conf, Value.cells] using this
  have f6 : DataW.trod enc Tryz.prog W 0 (fun _ => true) true n 29 [c13] = xs[6]? := by have := hfld 6 _ rfl; simpa [k_uint8, k_uint16, k_uint32, k_sbool, k_suint32, k_spk, k_conf, Value.cells] using this
  match xs, hlen with
  | [y0, y1, y2, y3, y4, y5, y6], _ =>
    simp only [Prod.mk.injEq] at hx
    have hin : ∀ z ∈ [y0, y1, y2, y3, y4, y5, y6], ∀ y ∈ z.2, y.block < W.heap.size := fun z hz y hy => hlt y (by rw [hx.2]; exact List.mem_flatMap.2 ⟨z, hz, hy⟩)
    obtain ⟨c, e0, e1, e2, e3, e4, e5, hwd, hp, hl⟩ := conf_of (x := y0) f0 (hin _ (by simp))
    obtain ⟨a1, b1, _, w1⟩ := DataW.trod_int Tryz.underlying5 f1
    obtain ⟨a2, b2, _, w2⟩ := DataW.trod_int Tryz.underlying25 f2
    obtain ⟨a3, b3, _, w3⟩ := DataW.trod_int Tryz.underlying26 f3
    obtain ⟨bs, b4, b5⟩ := bools_of (v := c11) (x := y4) Tryz.underlying27 Tryz.underlying4 k_bool f4 (hin _ (by simp))
    obtain ⟨zs, z1, z2, z3⟩ := ints_of (v := c12) (x := y5) Tryz.underlying28 Tryz.underlying25 k_uint32 f5 (hin _ (by simp))
    obtain ⟨rows, r1, r2, r3, r4⟩ := structs_of ([.i64, .i64, .i64] : List IntKind) (v := c13) (x := y6) Tryz.underlying29 Tryz.underlying83 (by kernel_rfl) (by kernel_rfl) rfl (fun j f hf => match j, hf with | 0, hf => by cases hf; exact Tryz.underlying3 | 1, hf => by cases hf; exact Tryz.underlying3 | 2, hf => by cases hf; exact Tryz.underlying3 | q + 3, hf => by simp at hf) f6
    obtain ⟨p1, p2, p3⟩ := pks_in r2 r3 r4
    simp at b1 b2 b3
    subst e0 e1 e2 e3 e4 e5 b1 b2 b3
    exact ⟨⟨c, a1, a2, a3, bs, zs, pksOf rows⟩, c6, c7, c11, c12, c13, rfl, hwd, ⟨(law_wf w1).1, (law_wf w1).2, (law_wf w2).1, (law_wf w2).2, (law_wf w3).1, (law_wf w3).2, b4, all_wf z2, z1, p3, by rw [p1]; exact r1⟩, hp, hl, b5, z3, p2⟩
end Go.Proofs.YtjfjjmlocgmicaaGreat
end
section
namespace Go.Proofs.YtjfjjmlocgmicaaGreat
open Go.ChangeShapes Go.WideShapes Go.ChangeAt Go.RowKit Go.Shelf
attribute [local go_sem] Oper.semAt_some
set_option linter.unusedVariables false
variable {w0 w w' : World} {F0 : Nat → Prop} {L : List Asn}
end Go.Proofs.YtjfjjmlocgmicaaGreat
end
section
namespace Go.Proofs.YtjfjjmlocgmicaaGreat
open Go.ChangeShapes Go.WideShapes Go.ChangeAt Go.RowKit Go.Shelf
set_option linter.unusedVariables false
variable {w0 w w' : World} {F0 : Nat → Prop} {L : List Asn}
def lfB (ps : List Int) (a : Int) : Bool := decide (0 ≤ a) && decide (a < ps.length) && !decide (a ∈ ps)
theorem lfB_iff {ps : List Int} {a : Int} : lfB ps a = true ↔ Lf ps a := by unfold lfB Lf; simp
theorem lfB_no {ps : List Int} {a : Int} (h : ¬ Lf ps a) : lfB ps a = false := by rw [Bool.eq_false_iff]; intro h'; exact h (lfB_iff.1 h')
end Go.Proofs.YtjfjjmlocgmicaaGreat
end
section
namespace Go.Proofs.YtjfjjmlocgmicaaGreat
open Go.ChangeShapes Go.WideShapes Go.ChangeAt Go.RowKit Go.Shelf
set_option linter.unusedVariables false
variable {w0 w w' : World} {F0 : Nat → Prop} {L : List Asn}

end Go.Proofs.YtjfjjmlocgmicaaGreat
end
section
namespace Go.Proofs.YtjfjjmlocgmicaaGreat
open Go.ChangeShapes Go.WideShapes Go.ChangeAt Go.RowKit Go.Shelf
set_option maxRecDepth 100000
set_option linter.unusedVariables false
variable {w0 w w' : World} {F0 : Nat → Prop} {L : List Asn}
theorem upF_take {ps : List Int} {v : Int} {k : Nat} (h : k < (path ps v).length) : (path ps v).take (k + 1) = (path ps v).take k ++ [(path ps v).getD k (-1)] := take_snoc h
theorem rPath_any (c : Cf) (ht : Tr c.ps) {vp vl : Value} (hp : IntsAt w .i64 vp c.ps) (hl : IntsAt w .i64 vl c.ls) (v : Int) (h : Own w0 F0 L w) :
    Calls Tryz.prog 74 #[cfV c vp vl, .int .i64 v] w (RetRow w0 F0 L 3 1 (path c.ps v).length (intC (path c.ps v))) := by
  refine Calls.mono (R := RetRow w (fun _ => False) [] 3 1 (path c.ps v).length (intC (path c.ps v))) ?_ fun e w' ⟨u, he, hO⟩ => ⟨u, he, h.lift hO⟩
  obtain ⟨pp, cp, rfl⟩ := hp.slice
  obtain ⟨pl, cl, rfl⟩ := hl.slice
  have HP := Lib.hid hp
  have HO := Lib.hid ((Own.start w).new (cfO c (.slice pp c.ps.length cp) (.slice pl c.ls.length cl)))
  have hn1 := ht.n1
  have hn0 := ht.n0
  clear hp hl h
  by_cases hin : 0 ≤ v ∧ v < c.ps.length
  · obtain ⟨h0, h1⟩ := hin
    have HX := Lib.hid (path_next ht v (by omega) h1)
    have HZ := Lib.hid (path_zero ht v h0 h1)
    have HN := Lib.hid (path_pos ht v h0 h1)
    have HT := Lib.hid ht
    have hl12 := path_len12 ht v
    have HTk := Lib.hid (fun k h => upF_take (ps := c.ps) (v := v) (k := k) h)
    have HEnd := Lib.hid (show (path c.ps v).getD (path c.ps v).length (-1) = -1 by simp [List.getD])
    obtain ⟨i0, hi0, hz0, hz1, hz2⟩ := info_parts Tryz.info_int
    have HO1 := Lib.hid (HO.out.rowNil (e := 3) (size := 1))
    obtain ⟨b, off, cap, he, hb⟩ := HP.out.at (by omega)
    injection he with he1 he2 he3
    subst he1
    have Hb := Lib.hid hb
    clear ht HO he2 he3 hb
    generalize path c.ps v = xs at *
    go_enter Tryz.func74, Tryz.ntmps74
    go_wp2
    go_loopw [5, 6] (fun r z wr => ∃ k : Nat, k ≤ xs.length ∧ z = .int .i64 (xs.getD k (-1)) ∧ Own w (fun _ => False) [row r 3 1 k (intC (xs.take k)), blk w.heap.size (cfO c (.slice (some ⟨b, off, none⟩) c.ps.length cp) (.slice pl c.ls.length cl))] wr) (fun _ z _ => (intOf z + 1).toNat)
    case atStart => exact ⟨0, by omega, by rw [HZ.out], HO1.out⟩
    case round =>
      obtain ⟨k, hk, rfl, hO⟩ := hrel
      by_cases hlt : k < xs.length
      · have hx := HX.out k hlt
        have HTe := Lib.hid (HTk.out k hlt)
        obtain ⟨z, hz⟩ : ∃ z : Nat, xs.getD k (-1) = z := ⟨(xs.getD k (-1)).toNat, by omega⟩
        rw [hz] at hx HTe
        simp only [hz]
        have hzn : z < c.ps.length := by omega
        have hbw := Hb.out z hzn
        have hbz : wr.cell? ⟨b, off + z, none⟩ = some (.int .i64 (c.ps.getD z 0)) := by
          rw [hO.toBelow.cell (World.block_lt_of_cell? w _ hbw)]; exact hbw
        obtain ⟨p, cap', rfl⟩ := row_slice hO
        have hfall := HT.out.fall z (by omega) (by omega)
        have hpar := hx.2.2
        rw [par, Int.toNat_natCast] at hpar hfall
        have HPR := Lib.hid hpar
        have HA := Lib.hid (hO.alloc (.cells #[.int .i64 z] 3))
        have HW := Lib.hid hbw
        have b1 : k + 1 ≤ maxLen := by unfold maxLen; omega
        have b2 : (k + 1) * 8 ≤ 140737488355328 := by omega
        clear hx hO hz hpar hbw hbz
        generalize c.ps.getD z 0 = q at *
        go_wp2_with (at_builtin; refine wpList_append_row rfl _ _ 22 rfl 3 i0 _ Tryz.underlying22 hi0 hz0 hz1 hz2 rfl (by decide) rfl HA.out ⟨wr.heap.size, 0, none⟩ 1 1 [.int .i64 z] rfl rfl (news_at wr [.int .i64 z] _ _ rfl) (by simp [Value.oneCell']) b1 b2 ?_; intro v' w1 hO hg hn; obtain ⟨p', cap', rfl⟩ := row_slice hO; have d6 : w1.cell? ⟨w.heap.size, 6, none⟩ = some (.slice (some ⟨b, off, none⟩) c.ps.length cp) := hO.swap.cell (i := 6) rfl; have hbz1 : w1.cell? ⟨b, off + z, none⟩ = some (.int .i64 q) := (hO.toBelow.cell (World.block_lt_of_cell? w _ HW.out)).trans HW.out; have HO2 := Lib.hid hO; clear hO hg hn)
        go_roundw
        case rel => exact ⟨k + 1, by omega, by rw [HPR.out], by rw [HTe.out, intC_snoc]; exact HO2.out⟩
        case measure => simp [intOf]; omega
      · have hke : k = xs.length := by omega
        subst hke
        rw [HEnd.out]
        obtain ⟨p, cap', rfl⟩ := row_slice hO
        have HO2 := Lib.hid (show Own w (fun _ => False) [row (.slice p xs.length cap') 3 1 xs.length (intC xs)] wr from by rw [List.take_length] at hO; exact hO.under fun _ _ h => h.drop)
        clear hO hlt
        go_wp2
        go_ret
        exact ⟨_, rfl, HO2.out⟩
  · rw [path_out v (by omega)]
    have HO1 := Lib.hid (HO.out.rowNil (e := 3) (size := 1))
    rcases (by omega : v < 0 ∨ (0 ≤ v ∧ (c.ps.length : Int) ≤ v)) with h1 | ⟨h1, h2⟩
    · clear hin
      go_enter Tryz.func74, Tryz.ntmps74
      go_wp2
      go_ret
      exact ⟨_, rfl, HO1.out.swap.drop⟩
    · clear hin
      go_enter Tryz.func74, Tryz.ntmps74
      go_wp2
      go_ret
      exact ⟨_, rfl, HO1.out.swap.drop⟩
end Go.Proofs.YtjfjjmlocgmicaaGreat
end
section
namespace Go.Proofs.YtjfjjmlocgmicaaGreat
open Go.ChangeShapes Go.WideShapes Go.ChangeAt Go.RowKit Go.Shelf
set_option maxRecDepth 100000
set_option linter.unusedVariables false
variable {w0 w w' : World} {F0 : Nat → Prop} {L : List Asn}
theorem rLeaf_any (c : Cf) (h0 : 0 < c.ps.length) (hn : c.ps.length ≤ 140737488351232) {vp vl : Value} (hp : IntsAt w .i64 vp c.ps) (hl : IntsAt w .i64 vl c.ls) (v : Int) :
    Calls Tryz.prog 77 #[cfV c vp vl, .int .i64 v] w fun e w' => e = .returned (.bool (lfB c.ps v)) ∧ Below w.heap.size w w' := by
  obtain ⟨pp, cp, rfl⟩ := hp.slice
  obtain ⟨pl, cl, rfl⟩ := hl.slice
  have HO := Lib.hid ((Own.start w).new (cfO c (.slice pp c.ps.length cp) (.slice pl c.ls.length cl)))
  have HY := Lib.hid (show ∀ k, k < c.ps.length → c.ps.getD k 0 = v → lfB c.ps v = false from fun k hk e => lfB_no (fun h => h.2 (List.mem_iff_getElem.2 ⟨k, hk, by simpa [List.getD, hk] using e⟩)))
  have HN := Lib.hid (show (∀ j, j < c.ps.length → c.ps.getD j 0 ≠ v) → v ∉ c.ps from fun h hm => by
    obtain ⟨k, hk, e⟩ := List.mem_iff_getElem.1 hm
    exact h k hk (by simpa [List.getD, hk] using e))
  have HF1 := Lib.hid (show ∀ _ : ¬ (0 ≤ v ∧ v < c.ps.length), lfB c.ps v = false from fun h => lfB_no (fun h' => h h'.1))
  have HF2 := Lib.hid (show ∀ _ : 0 ≤ v ∧ v < c.ps.length, v ∉ c.ps → lfB c.ps v = true from fun h h' => lfB_iff.2 ⟨h, h'⟩)
  obtain ⟨g, off, cap', he, hb⟩ := hp.at h0
  injection he with he1 he2 he3
  subst he1
  have Hb := Lib.hid hb
  clear hp hl he2 he3 hb
  have d6 := Lib.hid (HO.out.cell (i := 6) rfl)
  go_enter Tryz.func77, Tryz.ntmps77
  go_wp2
  go_loopw [5] (fun i wr => ∃ k : Nat, k ≤ c.ps.length ∧ i = .int .i64 k ∧ Hid (∀ j, j < k → c.ps.getD j 0 ≠ v) ∧ Own w (fun _ => False) [blk w.heap.size (cfO c (.slice (some ⟨g, off, none⟩) c.ps.length cp) (.slice pl c.ls.length cl))] wr) (fun i _ => c.ps.length - (intOf i).toNat)
  case atStart => exact ⟨0, by omega, rfl, Lib.hid (fun j hj => by omega), HO.out⟩
  case round =>
    obtain ⟨k, hk, rfl, HK, hO⟩ := hrel
    have d6 : wr.cell? ⟨w.heap.size, 6, none⟩ = some (.slice (some ⟨g, off, none⟩) c.ps.length cp) := hO.cell (i := 6) rfl
    have HO2 := Lib.hid hO
    by_cases hlt : k < c.ps.length
    · have hbk : wr.cell? ⟨g, off + k, none⟩ = some (.int .i64 (c.ps.getD k 0)) := (hO.toBelow.cell (World.block_lt_of_cell? w _ (Hb.out k hlt))).trans (Hb.out k hlt)
      obtain ⟨z, hz⟩ : ∃ z, c.ps.getD k 0 = z := ⟨_, rfl⟩
      rw [hz] at hbk
      by_cases hx : z = v
      · have hF : (z == v) = true := by simp [hx]
        have HX := Lib.hid (HY.out k hlt (by rw [hz, hx]))
        clear hz hx hO
        go_wp2
        go_ret
        exact ⟨ret_bool HX.out.symm, HO2.out.toBelow⟩
      · have hF : (z == v) = false := by simp [hx]
        have HK2 := Lib.hid (show ∀ j, j < k + 1 → c.ps.getD j 0 ≠ v from fun j hj => by
          rcases Nat.lt_or_eq_of_le (Nat.le_of_lt_succ hj) with h | rfl
          · exact HK.out j h
          · rw [hz]; exact hx)
        clear hz hx hO
        go_wp2
        go_roundw
        case rel => exact ⟨k + 1, by omega, by go_num, HK2, HO2.out⟩
        case measure => simp [intOf]; omega
    · have HM := Lib.hid (HN.out (fun j hj => HK.out j (by omega)))
      have hke : k = c.ps.length := by omega
      subst hke
      clear hlt hO
      by_cases hin : 0 ≤ v ∧ v < c.ps.length
      · have HX := Lib.hid (HF2.out hin HM.out)
        obtain ⟨i1, i2⟩ := hin
        go_wp2
        go_ret
        exact ⟨ret_bool HX.out.symm, HO2.out.toBelow⟩
      · have HX := Lib.hid (HF1.out hin)
        rcases (by omega : v < 0 ∨ (0 ≤ v ∧ (c.ps.length : Int) ≤ v)) with i1 | ⟨i1, i2⟩
        · clear hin
          go_wp2
          go_ret
          exact ⟨ret_bool HX.out.symm, HO2.out.toBelow⟩
        · have hF : decide (v < (c.ps.length : Int)) = false := by simp; omega
          clear hin i2
          go_wp2
          go_ret
          exact ⟨ret_bool HX.out.symm, HO2.out.toBelow⟩
end Go.Proofs.YtjfjjmlocgmicaaGreat
end
section
namespace Go.Proofs.YtjfjjmlocgmicaaGreat
open Go.ChangeShapes Go.WideShapes Go.ChangeAt Go.RowKit
set_option linter.unusedVariables false
theorem size_setCell (w : World) (a : Addr) (v : Value) : (w.setCell a v).heap.size = w.heap.size := by simp [World.setCell]
theorem size_alloc (w : World) (o : Obj) : (w.alloc o).heap.size = w.heap.size + 1 := by simp
end Go.Proofs.YtjfjjmlocgmicaaGreat
end
section
namespace Go.Proofs.YtjfjjmlocgmicaaGreat
open Go.ChangeShapes Go.WideShapes Go.ChangeAt Go.RowKit
set_option maxRecDepth 100000
set_option linter.unusedVariables false
end Go.Proofs.YtjfjjmlocgmicaaGreat
end
section
namespace Go.Proofs.YtjfjjmlocgmicaaGreat
open Go.ChangeShapes Go.WideShapes Go.ChangeAt Go.RowKit Go.Shelf
set_option linter.unusedVariables false
theorem Own.intsN {w0 w : World} {F0 : Nat → Prop} {L : List Asn} {v : Value} {n : Nat} {zs : List Int} (h : Own w0 F0 (row v 3 1 n (intC zs) :: L) w) (hn : zs.length = n) : IntsAt w .i64 v zs := by
  subst hn; exact h.intsAt
end Go.Proofs.YtjfjjmlocgmicaaGreat
end
