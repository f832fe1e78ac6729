/- Texts of elder layers, one behind the other: TreeRef3, RowMore, AddArg, AddBase. -/
import Derived.Test.YtjohngpbggendaaGreatB41
import Derived.Lib.QuietBelow
import Derived.BigQuiet
import Derived.Deep.QuietTactic
import Derived.Deep.RegionHeld3
section
/- The document's answer to layer 4: depths, who stands above whom, leaves. -/
namespace Go.Proofs.YtjohngpbggendaaGreat
open Go.ChangeShapes Go.WideShapes Go.ChangeAt Go.RowKit Go.Shelf
set_option maxRecDepth 100000
set_option linter.unusedVariables false
variable {w0 w w' : World} {F0 : Nat → Prop} {L : List Asn}
theorem rUnder_any (c : Cf) (ht : Tr c.ps) {vp vl : Value} (hp : IntsAt w .i64 vp c.ps) (hl : IntsAt w .i64 vl c.ls) (v b : Int) :
    Calls Tryz.prog 25 #[cfV c vp vl, .int .i64 v, .int .i64 b] w fun e w' => e = .returned (.bool (onB c.ps v b)) ∧ Below w.heap.size w w' := by
  obtain ⟨pp, cp, rfl⟩ := hp.slice
  obtain ⟨pl, cl, rfl⟩ := hl.slice
  have hO := (Own.start w).new (cfO c (.slice pp c.ps.length cp) (.slice pl c.ls.length cl))
  have HS := Lib.hid (rPath_any c ht (hp.below hO.toBelow) (hl.below hO.toBelow) v hO)
  have b2 := path_len12 ht v
  have HY := Lib.hid (show ∀ k, k < (path c.ps v).length ∧ (path c.ps v).getD k (-1) = b → onB c.ps v b = true from fun k hk => onB_iff.2 (on_get.2 ⟨k, hk.1, hk.2⟩))
  have HN := Lib.hid (show (∀ j, j < (path c.ps v).length → (path c.ps v).getD j (-1) ≠ b) → onB c.ps v b = false from fun h => by
    rw [Bool.eq_false_iff]; intro h'
    obtain ⟨k, hk, e⟩ := on_get.1 (onB_iff.1 h')
    exact h k hk e)
  clear hp hl hO
  go_enter Tryz.func25, Tryz.ntmps25
  go_wp2_with fail
  refine HS.out.mono ?_
  rintro e w1 ⟨u, rfl, hO⟩
  have hI := hO.intsAt
  obtain ⟨p, cap, rfl⟩ := row_slice hO
  have HB := Lib.hid hO.toBelow
  clear hO HS
  generalize path c.ps v = xs at *
  by_cases h0 : 0 < xs.length
  · obtain ⟨g, off, cap', he, hb⟩ := hI.at h0
    injection he with he1 he2 he3
    subst he1
    have Hb := Lib.hid hb
    clear hI he2 he3 hb
    go_wp2
    go_loop [8] (fun i => ∃ k : Nat, k ≤ xs.length ∧ i = .int .i64 k ∧ Hid (∀ j, j < k → xs.getD j (-1) ≠ b)) (fun i => xs.length - (intOf i).toNat)
    case atStart => exact ⟨0, by omega, rfl, Lib.hid (fun j hj => by omega)⟩
    case round =>
      obtain ⟨k, hk, rfl, HK⟩ := hrel
      by_cases hlt : k < xs.length
      · have hbk := Hb.out k hlt
        obtain ⟨z, hz⟩ : ∃ z, xs.getD k 0 = z := ⟨_, rfl⟩
        have hz2 : xs.getD k (-1) = z := by rw [← hz]; simp [List.getD, hlt]
        rw [hz] at hbk
        by_cases hx : z = b
        · have hF : (z == b) = true := by simp [hx]
          have HX := Lib.hid (HY.out k ⟨hlt, by rw [hz2, hx]⟩)
          clear hz hz2 hx
          go_wp2
          go_ret
          exact ⟨ret_bool HX.out.symm, HB.out⟩
        · have hF : (z == b) = false := by simp [hx]
          have HK2 := Lib.hid (show ∀ j, j < k + 1 → xs.getD j (-1) ≠ b from fun j hj => by
            rcases Nat.lt_or_eq_of_le (Nat.le_of_lt_succ hj) with h | rfl
            · exact HK.out j h
            · rw [hz2]; exact hx)
          clear hz hz2 hx
          go_wp2
          go_round
          case rel => exact ⟨k + 1, by omega, by go_num, HK2⟩
          case measure => simp [intOf]; omega
      · have HX := Lib.hid (HN.out (fun j hj => HK.out j (by omega)))
        have hke : k = xs.length := by omega
        subst hke
        clear hlt
        go_wp2
        go_ret
        exact ⟨ret_bool HX.out.symm, HB.out⟩
  · have h1 : xs.length = 0 := by omega
    have HX := Lib.hid (HN.out (fun j hj => by omega))
    rw [h1]
    clear h0 h1 hI
    go_wp2
    refine wp_loop_rounds 1 ?_
    rw [rounds_succ]
    go_wp2
    go_ret
    exact ⟨ret_bool HX.out.symm, HB.out⟩
theorem rLeaf_any (c : Cf) (h0 : 0 < c.ps.length) (hn : c.ps.length ≤ 140737488351232) {vp vl : Value} (hp : IntsAt w .i64 vp c.ps) (hl : IntsAt w .i64 vl c.ls) (v : Int) :
    Calls Tryz.prog 81 #[cfV c vp vl, .int .i64 v] w fun e w' => e = .returned (.bool (lfB c.ps v)) ∧ Below w.heap.size w w' := by
  obtain ⟨pp, cp, rfl⟩ := hp.slice
  obtain ⟨pl, cl, rfl⟩ := hl.slice
  have HO := Lib.hid ((Own.start w).new (cfO c (.slice pp c.ps.length cp) (.slice pl c.ls.length cl)))
  have HY := Lib.hid (show ∀ k, k < c.ps.length → c.ps.getD k 0 = v → lfB c.ps v = false from fun k hk e => lfB_no (fun h => h.2 (List.mem_iff_getElem.2 ⟨k, hk, by simpa [List.getD, hk] using e⟩)))
  have HN := Lib.hid (show (∀ j, j < c.ps.length → c.ps.getD j 0 ≠ v) → v ∉ c.ps from fun h hm => by
    obtain ⟨k, hk, e⟩ := List.mem_iff_getElem.1 hm
    exact h k hk (by simpa [List.getD, hk] using e))
  have HF1 := Lib.hid (show ∀ _ : ¬ (0 ≤ v ∧ v < c.ps.length), lfB c.ps v = false from fun h => lfB_no (fun h' => h h'.1))
  have HF2 := Lib.hid (show ∀ _ : 0 ≤ v ∧ v < c.ps.length, v ∉ c.ps → lfB c.ps v = true from fun h h' => lfB_iff.2 ⟨h, h'⟩)
  obtain ⟨g, off, cap', he, hb⟩ := hp.at h0
  injection he with he1 he2 he3
  subst he1
  have Hb := Lib.hid hb
  clear hp hl he2 he3 hb
  have d6 := Lib.hid (HO.out.cell (i := 6) rfl)
  go_enter Tryz.func81, Tryz.ntmps81
  go_wp2
  go_loopw [5] (fun i wr => ∃ k : Nat, k ≤ c.ps.length ∧ i = .int .i64 k ∧ Hid (∀ j, j < k → c.ps.getD j 0 ≠ v) ∧ Own w (fun _ => False) [blk w.heap.size (cfO c (.slice (some ⟨g, off, none⟩) c.ps.length cp) (.slice pl c.ls.length cl))] wr) (fun i _ => c.ps.length - (intOf i).toNat)
  case atStart => exact ⟨0, by omega, rfl, Lib.hid (fun j hj => by omega), HO.out⟩
  case round =>
    obtain ⟨k, hk, rfl, HK, hO⟩ := hrel
    have d6 : wr.cell? ⟨w.heap.size, 6, none⟩ = some (.slice (some ⟨g, off, none⟩) c.ps.length cp) := hO.cell (i := 6) rfl
    have HO2 := Lib.hid hO
    by_cases hlt : k < c.ps.length
    · have hbk : wr.cell? ⟨g, off + k, none⟩ = some (.int .i64 (c.ps.getD k 0)) := (hO.toBelow.cell (World.block_lt_of_cell? w _ (Hb.out k hlt))).trans (Hb.out k hlt)
      obtain ⟨z, hz⟩ : ∃ z, c.ps.getD k 0 = z := ⟨_, rfl⟩
      rw [hz] at hbk
      by_cases hx : z = v
      · have hF : (z == v) = true := by simp [hx]
        have HX := Lib.hid (HY.out k hlt (by rw [hz, hx]))
        clear hz hx hO
        go_wp2
        go_ret
        exact ⟨ret_bool HX.out.symm, HO2.out.toBelow⟩
      · have hF : (z == v) = false := by simp [hx]
        have HK2 := Lib.hid (show ∀ j, j < k + 1 → c.ps.getD j 0 ≠ v from fun j hj => by
          rcases Nat.lt_or_eq_of_le (Nat.le_of_lt_succ hj) with h | rfl
          · exact HK.out j h
          · rw [hz]; exact hx)
        clear hz hx hO
        go_wp2
        go_roundw
        case rel => exact ⟨k + 1, by omega, by go_num, HK2, HO2.out⟩
        case measure => simp [intOf]; omega
    · have HM := Lib.hid (HN.out (fun j hj => HK.out j (by omega)))
      have hke : k = c.ps.length := by omega
      subst hke
      clear hlt hO
      by_cases hin : 0 ≤ v ∧ v < c.ps.length
      · have HX := Lib.hid (HF2.out hin HM.out)
        obtain ⟨i1, i2⟩ := hin
        go_wp2
        go_ret
        exact ⟨ret_bool HX.out.symm, HO2.out.toBelow⟩
      · have HX := Lib.hid (HF1.out hin)
        rcases (by omega : v < 0 ∨ (0 ≤ v ∧ (c.ps.length : Int) ≤ v)) with i1 | ⟨i1, i2⟩
        · clear hin
          go_wp2
          go_ret
          exact ⟨ret_bool HX.out.symm, HO2.out.toBelow⟩
        · have hF : decide (v < (c.ps.length : Int)) = false := by simp; omega
          clear hin i2
          go_wp2
          go_ret
          exact ⟨ret_bool HX.out.symm, HO2.out.toBelow⟩
end Go.Proofs.YtjohngpbggendaaGreat
end
section
/- Rows: what an append wants, and leaves. -/
namespace Go.Proofs.YtjohngpbggendaaGreat
open Go.ChangeShapes Go.WideShapes Go.ChangeAt Go.RowKit
set_option linter.unusedVariables false
theorem size_setCell (w : World) (a : Addr) (v : Value) : (w.setCell a v).heap.size = w.heap.size := by simp [World.setCell]
theorem size_alloc (w : World) (o : Obj) : (w.alloc o).heap.size = w.heap.size + 1 := by simp
end Go.Proofs.YtjohngpbggendaaGreat
end
section
/- A counter that came in, as a law's argument. -/
namespace Go.Proofs.YtjohngpbggendaaGreat
open Go.ChangeShapes Go.WideShapes Go.ChangeAt Go.RowKit
set_option maxRecDepth 100000
set_option linter.unusedVariables false
end Go.Proofs.YtjohngpbggendaaGreat
end
section
/- What breadlinelaw06's laws share. -/
namespace Go.Proofs.YtjohngpbggendaaGreat
open Go.ChangeShapes Go.WideShapes Go.ChangeAt Go.RowKit Go.Shelf
set_option linter.unusedVariables false
theorem Own.intsN {w0 w : World} {F0 : Nat → Prop} {L : List Asn} {v : Value} {n : Nat} {zs : List Int} (h : Own w0 F0 (row v 3 1 n (intC zs) :: L) w) (hn : zs.length = n) : IntsAt w .i64 v zs := by
  subst hn; exact h.intsAt
end Go.Proofs.YtjohngpbggendaaGreat
end
