/- The counters of breadlinelaw06's laws: Words, laid. -/
import Derived.Test.YtikncpmkjcnhhaaAddCn
namespace Go.Proofs.Ytikncpmkjcnhhaa
open Go.ChangeShapes Go.WideShapes Go.ChangeAt Go.RowKit Go.Shelf
set_option linter.unusedVariables false
set_option maxRecDepth 100000
variable {W w w' : World} {L : List Asn} {T : TypeId} {m : Nat} {ws : List Int} {lg : List Acc}
abbrev NoF : Nat → Prop := fun _ => False
theorem getD_out (l : List Int) (k : Nat) (h : l.length ≤ k) : l.getD k 0 = 0 := by simp [List.getD, h]
theorem tm_bd (x g : Int) (h : 1 ≤ g) : -g < x.tmod g ∧ x.tmod g < g := by
  constructor
  · have := Int.lt_tmod_of_pos x (b := g) (by omega); omega
  · exact Int.tmod_lt_of_pos x (by omega)
theorem zeroSet (n b : Nat) (x : Int) : (zeroInts n).setIfInBounds b (.int .i64 x) = (intC ((List.replicate n 0).set b x)).toArray := by
  have : zeroInts n = (intC (List.replicate n 0)).toArray := by rw [← zeroInts_list]
  rw [this]; apply Array.toList_inj.1; simp [intC]
theorem zeroSet2 (n b c : Nat) (x y : Int) : ((zeroInts n).setIfInBounds b (.int .i64 x)).setIfInBounds c (.int .i64 y) = (intC (((List.replicate n 0).set b x).set c y)).toArray := by
  rw [zeroSet]; apply Array.toList_inj.1; simp [intC]
set_option maxHeartbeats 1000000 in
theorem lWords_any (c : Cn) (vr vl : Value) (hc : c.Wf) (hn1 : c.ver.length ≤ 20) (hn2 : c.val.length ≤ 20) (hr : IntsAt W .u32 vr c.ver) (hv : IntsAt W .i32 vl c.val) (h : Own W NoF L w) :
    Calls Try.prog 11 #[cnV c vr vl] w (RetRow W NoF L 3 1 (c.b + 4 + c.s + 3) (intC (wlay c c.s))) := by
  have HS := fun w => Lib.hid (Size_any c vr vl hc w)
  have hb := c.bE hc
  have hs := c.sE
  have hg := c.gE hc
  have Hwl := Lib.hid (show wlay c 0 = ((List.replicate (c.b + 4 + c.s + 3) 0).set c.b c.gl).set (c.b + 3) c.lve from rfl)
  have Hwn := Lib.hid (show ∀ k, wlay c (k + 1) = (wlay c k).set (c.b + 4 + k) (stw c k) from fun _ => rfl)
  have Hln := Lib.hid (wlay_len c)
  have Hst := Lib.hid (show ∀ k, stw c k = sg (pmk (c.ver.getD k 0) ((c.val.getD k 0).tmod c.g)) from fun _ => rfl)
  have H1 := Lib.hid (h.new (cnO c vr vl))
  have Hr := Lib.hid hr
  have Hv := Lib.hid hv
  have Her := Lib.hid hc.er
  have Hal := Lib.hid hc.al
  obtain ⟨l0, l1⟩ := And.intro hc.l0 hc.l1
  simp only [cnV] at HS ⊢
  rw [hb.1, hs.1, show c.ga % 40 + 1 = c.g from rfl] at HS
  generalize c.b = b at *
  generalize c.s = s at *
  generalize c.g = g at *
  obtain ⟨-, hb⟩ := hb
  obtain ⟨-, hs0, hs1⟩ := hs
  have hmk := fun w => make_any (b + 4 + s + 3) ((b : Int) + 4 + s + 3) (by omega) (by omega) w
  clear h hr hv hc
  unfold cnO at H1
  go_enter Try.func11, Try.ntmps11
  have c0 := (cnCells H1.out).1
  go_wp2_with fail
  refine (HS _).out.mono ?_
  rintro e w1 ⟨rfl, hB⟩
  have hB2 := H1.out.below hB
  have H2 := iNew (b + 4 + s + 3) hB2
  have e3 := (cnCells H2.swap).2.2.2.1
  have x0 := H2.iAt b (by simp; omega)
  have f0 : World.frozen? _ ⟨w1.heap.size, b, none⟩ = false := Own.unfrozen H2
  have H3 := hB2.new (.cells ((zeroInts (b + 4 + s + 3)).setIfInBounds b (.int .i64 c.gl)) 3)
  rw [zeroSet] at H3
  have x1 := Own.iAt H3 (b + 3) (by simp; omega)
  have f1 : World.frozen? _ ⟨w1.heap.size, b + 3, none⟩ = false := Own.unfrozen H3
  rw [← zeroSet] at x1 f1
  have H4 := Lib.hid (hB2.new (.cells (((zeroInts (b + 4 + s + 3)).setIfInBounds b (.int .i64 c.gl)).setIfInBounds (b + 3) (.int .i64 c.lve)) 3))
  clear c0 H1 HS H2 H3 hB hB2
  go_wp2_with fail
  go_loopw [8, 9, 10, 11, 12] (fun v8 v9 v10 v11 v12 wr => ∃ k : Nat, k ≤ s ∧ v8 = .int .i64 k ∧ Own W NoF (iB w1.heap.size (wlay c k) :: blk w.heap.size (.cells #[.int .u8 c.bs, .int .u8 c.st, .int .u16 c.ga, .int .i32 c.gl, .int .u8 c.lv, vr, vl] 26 (0, 0)) :: L) wr) (fun v8 v9 v10 v11 v12 _ => s - (intOf v8).toNat)
  case atStart =>
    refine ⟨0, Nat.zero_le _, rfl, ?_⟩
    have h4 := H4.out
    rw [zeroSet2] at h4
    rw [Hwl.out, zeroSet2]
    exact h4
  case round =>
    obtain ⟨k, hk, rfl, hO⟩ := hrel
    clear x0 f0 x1 f1 e3 hmk H4
    have HO := Lib.hid hO
    by_cases hlt : k < s
    · obtain ⟨c0, c1, c2, c3, c4, c5, c6⟩ := cnCells hO.swap
      have x0 := hO.iAt (b + 4 + k) (by rw [Hln.out]; omega)
      have f0 : World.frozen? _ ⟨w1.heap.size, b + 4 + k, none⟩ = false := Own.unfrozen hO
      have HS := Lib.hid (hO.iSet (b + 4 + k) (stw c k))
      rw [← Hwn.out] at HS
      have hst := Hst.out k
      have hA : 0 ≤ c.ver.getD k 0 ∧ c.ver.getD k 0 ≤ 4294967295 := by
        by_cases h : k < c.ver.length
        · exact Her.out k h
        · rw [getD_out _ _ (by omega)]; omega
      have hB : -2147483648 ≤ c.val.getD k 0 ∧ c.val.getD k 0 ≤ 2147483647 := by
        by_cases h : k < c.val.length
        · exact Hal.out k h
        · rw [getD_out _ _ (by omega)]; omega
      have hT := tm_bd (c.val.getD k 0) g (by omega)
      have HWd := fun w => Lib.hid (rWord_yes (c.ver.getD k 0) ((c.val.getD k 0).tmod g) hA.1 hA.2 (by omega) (by omega) w)
      rw [← hst] at HWd
      obtain ⟨n1, u1, e1⟩ := Hr.out.below hO.toBelow |>.slice
      obtain ⟨n2, u2, e2⟩ := Hv.out.below hO.toBelow |>.slice
      by_cases k1 : k < c.ver.length <;> by_cases k2 : k < c.val.length
      · obtain ⟨b1, o1, cc1, ev1, hv1⟩ := (Hr.out.below hO.toBelow).at (by omega)
        obtain ⟨b2, o2, cc2, ev2, hv2⟩ := (Hv.out.below hO.toBelow).at (by omega)
        have y1 := hv1 k k1
        have y2 := hv2 k k2
        rw [ev1] at c5
        rw [ev2] at c6
        generalize c.ver.getD k 0 = y at y1 hA HWd
        generalize c.val.getD k 0 = z at y2 hB hT HWd
        clear hv1 hv2 ev1 ev2 e1 e2 hst hO
        generalize stw c k = st at HS HWd
        go_wp2_with fail
        refine (HWd _).out.mono ?_
        rintro e w4 ⟨rfl, rfl⟩
        go_wp2_with fail
        go_roundw
        case rel => exact ⟨k + 1, by omega, by go_num, HS.out⟩
        case measure => simp [intOf]; omega
      · obtain ⟨b1, o1, cc1, ev1, hv1⟩ := (Hr.out.below hO.toBelow).at (by omega)
        have y1 := hv1 k k1
        rw [ev1] at c5
        rw [e2] at c6
        rw [getD_out _ _ (show c.val.length ≤ k by omega), Int.zero_tmod] at HWd
        generalize c.ver.getD k 0 = y at y1 hA HWd
        clear hv1 ev1 e1 e2 hst hO hB hT
        generalize stw c k = st at HS HWd
        go_wp2_with fail
        refine (HWd _).out.mono ?_
        rintro e w4 ⟨rfl, rfl⟩
        go_wp2_with fail
        go_roundw
        case rel => exact ⟨k + 1, by omega, by go_num, HS.out⟩
        case measure => simp [intOf]; omega
      · obtain ⟨b2, o2, cc2, ev2, hv2⟩ := (Hv.out.below hO.toBelow).at (by omega)
        have y2 := hv2 k k2
        rw [e1] at c5
        rw [ev2] at c6
        rw [getD_out _ _ (show c.ver.length ≤ k by omega)] at HWd
        generalize c.val.getD k 0 = z at y2 hB hT HWd
        clear hv2 ev2 e1 e2 hst hO hA
        generalize stw c k = st at HS HWd
        go_wp2_with fail
        refine (HWd _).out.mono ?_
        rintro e w4 ⟨rfl, rfl⟩
        go_wp2_with fail
        go_roundw
        case rel => exact ⟨k + 1, by omega, by go_num, HS.out⟩
        case measure => simp [intOf]; omega
      · rw [e1] at c5
        rw [e2] at c6
        rw [getD_out _ _ (show c.ver.length ≤ k by omega), getD_out _ _ (show c.val.length ≤ k by omega), Int.zero_tmod] at HWd
        clear e1 e2 hst hO hA hB hT
        generalize stw c k = st at HS HWd
        go_wp2_with fail
        refine (HWd _).out.mono ?_
        rintro e w4 ⟨rfl, rfl⟩
        go_wp2_with fail
        go_roundw
        case rel => exact ⟨k + 1, by omega, by go_num, HS.out⟩
        case measure => simp [intOf]; omega
    · obtain rfl : k = s := by omega
      go_wp2_with fail
      go_ret
      exact ⟨_, rfl, (Own.iRow hO (Hln.out _) (by omega)).under fun _ _ h => h.drop⟩
end Go.Proofs.Ytikncpmkjcnhhaa
