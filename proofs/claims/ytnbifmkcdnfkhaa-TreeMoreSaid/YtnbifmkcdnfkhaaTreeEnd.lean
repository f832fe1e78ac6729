/- Package tree's Depth and Leaf. -/
import Derived.Test.YtnbifmkcdnfkhaaTreeUp3
namespace Go.Proofs.Ytnbifmkcdnfkhaa
open Go.ChangeShapes Go.WideShapes Go.ChangeAt Go.RowKit Go.Shelf
set_option linter.unusedVariables false
variable {w0 w w' : World} {F0 : Nat → Prop} {L : List Asn}
def SomeIdx (w : World) (e : Ending) (w' : World) : Prop := ∃ k : Nat, k < 140737488351232 ∧ e = .returned (.int .i64 k) ∧ w = w'
theorem Index_yes {v : Value} {zs : List Int} (x : Int) (hv : IntsAt w .i64 v zs) (hn : zs.length ≤ 140737488351232) (h : x ∈ zs) :
    Calls Try.prog 34 #[v, .int .i64 x] w (SomeIdx w) := by
  have h0 : 0 < zs.length := List.length_pos_of_mem h
  obtain ⟨b, off, cap, rfl, hb⟩ := hv.at h0
  obtain ⟨q, hq, hqe⟩ := List.mem_iff_getElem.1 h
  have HQ := Lib.hid (show zs.getD q 0 = x by simp [List.getD, hq, hqe])
  clear hv h hqe
  generalize zs.length = N at *
  have Hb := Lib.hid hb
  clear hb
  go_enter Try.func34, Try.ntmps34
  go_wp2
  go_loop [8] (fun i => ∃ k : Nat, k ≤ q ∧ i = .int .i64 k) (fun i => N - (intOf i).toNat)
  case atStart => exact ⟨0, by omega, rfl⟩
  case round =>
    obtain ⟨k, hk, rfl⟩ := hrel
    have hlt : k < N := by omega
    have hbk : w.cell? ⟨b, off + k, none⟩ = some (.int .i64 (zs.getD k 0)) := Hb.out k hlt
    obtain ⟨z, hz⟩ : ∃ z, zs.getD k 0 = z := ⟨_, rfl⟩
    rw [hz] at hbk
    by_cases hx : x = z
    · have hF : (x == z) = true := by simp [hx]
      clear hz hx HQ
      go_wp2
      go_ret
      exact ⟨k, by omega, rfl, rfl⟩
    · have hF : (x == z) = false := by simp [hx]
      have hkq : k < q := by
        rcases Nat.lt_or_eq_of_le hk with h | rfl
        · exact h
        · rw [HQ.out] at hz; exact absurd hz hx
      clear hz hx
      go_wp2
      go_round
      case rel => exact ⟨k + 1, by omega, by go_num⟩
      case measure => simp [intOf]; omega
theorem Index_no {v : Value} {zs : List Int} (x : Int) (hv : IntsAt w .i64 v zs) (hn : zs.length ≤ 140737488351232) (h : x ∉ zs) :
    Calls Try.prog 34 #[v, .int .i64 x] w fun e w' => e = .returned (.int .i64 (-1)) ∧ w = w' := by
  by_cases h0 : 0 < zs.length
  · obtain ⟨b, off, cap, rfl, hb⟩ := hv.at h0
    have HQ := Lib.hid (show ∀ j, j < zs.length → zs.getD j 0 ≠ x from fun j hj e => h (List.mem_iff_getElem.2 ⟨j, hj, by simpa [List.getD, hj] using e⟩))
    clear hv h
    generalize zs.length = N at *
    have Hb := Lib.hid hb
    clear hb
    go_enter Try.func34, Try.ntmps34
    go_wp2
    go_loop [8] (fun i => ∃ k : Nat, k ≤ N ∧ i = .int .i64 k) (fun i => N - (intOf i).toNat)
    case atStart => exact ⟨0, by omega, rfl⟩
    case round =>
      obtain ⟨k, hk, rfl⟩ := hrel
      by_cases hlt : k < N
      · have hbk : w.cell? ⟨b, off + k, none⟩ = some (.int .i64 (zs.getD k 0)) := Hb.out k hlt
        have hne := HQ.out k hlt
        generalize zs.getD k 0 = z at hbk hne
        have hF : (x == z) = false := by simp [Ne.symm hne]
        clear hne
        go_wp2
        go_round
        case rel => exact ⟨k + 1, by omega, by go_num⟩
        case measure => simp [intOf]; omega
      · go_wp2
        go_ret
        exact ⟨rfl, rfl⟩
  · obtain ⟨p, cap, rfl⟩ := hv.slice
    have h1 : zs.length = 0 := by omega
    rw [h1]
    clear hv h0 h1 h
    go_enter Try.func34, Try.ntmps34
    go_wp2
    refine wp_loop_rounds 1 ?_
    rw [rounds_succ]
    go_wp2
    go_ret
    exact ⟨rfl, rfl⟩
theorem Contains_yes {v : Value} {zs : List Int} (x : Int) (hv : IntsAt w .i64 v zs) (hn : zs.length ≤ 140737488351232) (h : x ∈ zs) :
    Calls Try.prog 31 #[v, .int .i64 x] w fun e w' => e = .returned (.bool true) ∧ w = w' := by
  have HI := Lib.hid (Index_yes x hv hn h)
  obtain ⟨p, cap, rfl⟩ := hv.slice
  clear hv h
  go_enter Try.func31, Try.ntmps31
  go_wp2_with fail
  refine HI.out.mono ?_
  rintro e w' ⟨k, hk, rfl, rfl⟩
  go_wp2
  go_ret
  exact ⟨rfl, rfl⟩
theorem Contains_no {v : Value} {zs : List Int} (x : Int) (hv : IntsAt w .i64 v zs) (hn : zs.length ≤ 140737488351232) (h : x ∉ zs) :
    Calls Try.prog 31 #[v, .int .i64 x] w fun e w' => e = .returned (.bool false) ∧ w = w' := by
  have HI := Lib.hid (Index_no x hv hn h)
  obtain ⟨p, cap, rfl⟩ := hv.slice
  clear hv h
  go_enter Try.func31, Try.ntmps31
  go_wp2_with fail
  refine HI.out.mono ?_
  rintro e w' ⟨rfl, rfl⟩
  go_wp2
  go_ret
  exact ⟨rfl, rfl⟩
def lfB (ps : List Int) (a : Int) : Bool := decide (0 ≤ a) && decide (a < ps.length) && !decide (a ∈ ps)
theorem lfB_iff {ps : List Int} {a : Int} : lfB ps a = true ↔ Lf ps a := by unfold lfB Lf; simp
theorem lfB_no {ps : List Int} {a : Int} (h : ¬ Lf ps a) : lfB ps a = false := by rw [Bool.eq_false_iff]; intro h'; exact h (lfB_iff.1 h')
theorem Leaf_any (c : Cf) (hn : c.ps.length ≤ 140737488351232) {vp vl : Value} (hp : IntsAt w .i64 vp c.ps) (hl : IntsAt w .i64 vl c.ls) (v : Int) :
    Calls Try.prog 20 #[cfV c vp vl, .int .i64 v] w fun e w' => e = .returned (.bool (lfB c.ps v)) ∧ Below w.heap.size w w' := by
  obtain ⟨pp, cp, rfl⟩ := hp.slice
  obtain ⟨pl, cl, rfl⟩ := hl.slice
  have HP := Lib.hid hp
  have HO := Lib.hid ((Own.start w).new (cfO c (.slice pp c.ps.length cp) (.slice pl c.ls.length cl)))
  clear hp hl
  by_cases hin : 0 ≤ v ∧ v < c.ps.length
  · have HH := fun w => Lib.hid (has_yes c pp c.ps.length cp (.slice pl c.ls.length cl) v hin.1 hin.2 hn w)
    by_cases hm : v ∈ c.ps
    · rw [lfB_no (fun h => h.2 hm)]
      have HC := fun w h => Lib.hid (Contains_yes (w := w) (v := .slice pp c.ps.length cp) v h hn hm)
      clear hm hin
      go_enter Try.func20, Try.ntmps20
      go_wp2_with fail
      refine (HH _).out.mono ?_
      rintro e w1 ⟨rfl, hB⟩
      have hO := HO.out.below hB
      have d6 : w1.cell? ⟨w.heap.size, 6, none⟩ = some (.slice pp c.ps.length cp) := hO.cell (i := 6) rfl
      have HO2 := Lib.hid hO
      clear hO hB HH
      go_wp2_with fail
      refine (HC _ (HP.out.below HO2.out.toBelow)).out.mono ?_
      rintro e w' ⟨rfl, rfl⟩
      go_wp2
      go_ret
      exact ⟨rfl, HO2.out.toBelow⟩
    · rw [lfB_iff.2 ⟨hin, hm⟩]
      have HC := fun w h => Lib.hid (Contains_no (w := w) (v := .slice pp c.ps.length cp) v h hn hm)
      clear hm hin
      go_enter Try.func20, Try.ntmps20
      go_wp2_with fail
      refine (HH _).out.mono ?_
      rintro e w1 ⟨rfl, hB⟩
      have hO := HO.out.below hB
      have d6 : w1.cell? ⟨w.heap.size, 6, none⟩ = some (.slice pp c.ps.length cp) := hO.cell (i := 6) rfl
      have HO2 := Lib.hid hO
      clear hO hB HH
      go_wp2_with fail
      refine (HC _ (HP.out.below HO2.out.toBelow)).out.mono ?_
      rintro e w' ⟨rfl, rfl⟩
      go_wp2
      go_ret
      exact ⟨rfl, HO2.out.toBelow⟩
  · rw [lfB_no (fun h => hin h.1)]
    have HH := fun w => Lib.hid (has_no c pp c.ps.length cp (.slice pl c.ls.length cl) v hin hn w)
    clear hin
    go_enter Try.func20, Try.ntmps20
    go_wp2_with fail
    refine (HH _).out.mono ?_
    rintro e w1 ⟨rfl, hB⟩
    have HO2 := Lib.hid (HO.out.below hB)
    clear hB HH
    go_wp2
    go_ret
    exact ⟨rfl, HO2.out.toBelow⟩
theorem Depth_any (c : Cf) (ht : Tr c.ps) {vp vl : Value} (hp : IntsAt w .i64 vp c.ps) (hl : IntsAt w .i64 vl c.ls) :
    Calls Try.prog 16 #[cfV c vp vl] w fun e w' => e = .returned (.int .i64 (dep c.ps)) ∧ Below w.heap.size w w' := by
  obtain ⟨pp, cp, rfl⟩ := hp.slice
  obtain ⟨pl, cl, rfl⟩ := hl.slice
  have HP := Lib.hid hp
  have HL := Lib.hid hl
  have HO := Lib.hid ((Own.start w).new (cfO c (.slice pp c.ps.length cp) (.slice pl c.ls.length cl)))
  have hn1 := ht.n1
  have hK := fun k => depK_le ht k
  have HK := Lib.hid hK
  clear hp hl hK
  go_enter Try.func16, Try.ntmps16
  go_wp2
  go_loopw [3, 8] (fun d i wr => ∃ k : Nat, k ≤ c.ps.length ∧ i = .int .i64 k ∧ d = .int .i64 (depK c.ps k) ∧ Own w (fun _ => False) [blk w.heap.size (cfO c (.slice pp c.ps.length cp) (.slice pl c.ls.length cl))] wr) (fun _ i _ => c.ps.length - (intOf i).toNat)
  case atStart => exact ⟨0, by omega, rfl, rfl, HO.out⟩
  case round =>
    obtain ⟨k, hk, rfl, rfl, hO⟩ := hrel
    have HO2 := Lib.hid hO
    by_cases hlt : k < c.ps.length
    · have d0 : wr.cell? ⟨w.heap.size, 0, none⟩ = some (.int .i64 c.th) := hO.cell (i := 0) rfl
      have d1 : wr.cell? ⟨w.heap.size, 1, none⟩ = some (.int .i64 c.st) := hO.cell (i := 1) rfl
      have d2 : wr.cell? ⟨w.heap.size, 2, none⟩ = some (.int .i64 c.ga) := hO.cell (i := 2) rfl
      have d3 : wr.cell? ⟨w.heap.size, 3, none⟩ = some (.int .i64 c.le) := hO.cell (i := 3) rfl
      have d4 : wr.cell? ⟨w.heap.size, 4, none⟩ = some (.int .i64 c.re) := hO.cell (i := 4) rfl
      have d5 : wr.cell? ⟨w.heap.size, 5, none⟩ = some (.int .i64 c.ti) := hO.cell (i := 5) rfl
      have d6 : wr.cell? ⟨w.heap.size, 6, none⟩ = some (.slice pp c.ps.length cp) := hO.cell (i := 6) rfl
      have d7 : wr.cell? ⟨w.heap.size, 7, none⟩ = some (.slice pl c.ls.length cl) := hO.cell (i := 7) rfl
      have HS := Lib.hid (steps_any c ht (HP.out.below hO.toBelow) (HL.out.below hO.toBelow) k)
      have b1 := HK.out k
      have b2 := path_len12 ht (k : Int)
      have HM := Lib.hid (show max (depK c.ps k : Int) ((path c.ps k).length : Int) = (depK c.ps (k + 1) : Int) by simp only [depK]; omega)
      clear hO
      go_wp2_with fail
      refine HS.out.mono ?_
      rintro e w1 ⟨rfl, hB⟩
      have HO3 := Lib.hid (HO2.out.below hB)
      clear hB d0 d1 d2 d3 d4 d5 d6 d7 HS HO2
      generalize (path c.ps k).length = q at *
      generalize depK c.ps k = p at *
      go_wp2
      go_roundw
      case rel => exact ⟨k + 1, by omega, by go_num, by congr 1; have := HM.out; split <;> omega, HO3.out⟩
      case measure => simp [intOf]; omega
    · have hke : k = c.ps.length := by omega
      subst hke
      clear hO hlt
      go_wp2
      go_ret
      exact ⟨rfl, HO2.out.toBelow⟩
end Go.Proofs.Ytnbifmkcdnfkhaa
