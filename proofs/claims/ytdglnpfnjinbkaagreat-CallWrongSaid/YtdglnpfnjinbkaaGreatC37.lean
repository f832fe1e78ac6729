/- Texts of elder layers, one behind the other: AdmitGo. -/
import Derived.Test.YtdglnpfnjinbkaaGreatC36
namespace Go.Proofs.YtdglnpfnjinbkaaGreat
open Go.ChangeShapes Go.WideShapes Go.ChangeAt Go.RowKit Go.Shelf
open Lib (hid)
set_option linter.unusedVariables false
set_option linter.unusedSimpArgs false
set_option maxRecDepth 100000
set_option maxHeartbeats 4000000
section
variable {w0 w w' W : World} {F0 : Nat -> Prop} {L : List Asn} {T : TypeId} {m : Nat} {ws : List Int} {lg : List Acc}
theorem onNil (w : World) : (binOp .eql 42 .nilIface .nilIface).run Tryz.prog w = .ok (.bool true) w := by kernel_rfl
theorem onSome (ty : TypeId) (g' : Nat) (w : World) : (binOp .eql 42 (.iface ty (.pointer (some ⟨g', 0, none⟩))) .nilIface).run Tryz.prog w = .ok (.bool false) w := by kernel_rfl
section
variable {g : Nat} {lf bk la : Value}
theorem amStep_end {on : Value} {er an nd : Int} {q : Option Addr} {c : Nat} (r : Value) (h : Own w0 F0 (blk g (amO (.slice q 0 c) on bk la er an nd) :: L) w) :
 Calls Tryz.prog 295 #[ptr g, r] w fun e w' => e = .returned (.bool true) /\ w = w' := by
 have fe : ∀ w : World, (binOp .eql 134 (.pointer (some ⟨g, 0, none⟩)) (.pointer none)).run Tryz.prog w = .ok (.bool false) w := fun w => by kernel_rfl
 have HE := hid (zYz h)
 unfold ptr at *
 clear h
 go_enter Tryz.func295, Tryz.ntmps295
 go_wp2_with fail
 refine HE.out.mono ?_
 rintro e w1 ⟨rfl, rfl⟩
 go_wp2_with fail
 go_ret
 exact ⟨rfl, rfl⟩
theorem amStep_onM {b o k c : Nat} (ty : TypeId) (fS : FuncId) (M M' : Nat -> List Asn)
 (hmS : ∀ g' d w, (method (d + 2) ty (ptr g') "Step").run Tryz.prog w = .ok (fS, ptr g') w) (heS : ∀ args w, (callFunc fS args).run Tryz.prog w = .ok (.enter fS args) w)
 (HS : ∀ g' w, Own w0 F0 (blk g (amO (.slice (some ⟨b, o, none⟩) (k + 1) c) (.iface ty (ptr g')) bk la 0 0 0) :: M g') w -> Calls Tryz.prog fS #[ptr g', ptr m] w fun e w' => e = .returned (.bool false) /\ Own w0 F0 (blk g (amO (.slice (some ⟨b, o, none⟩) (k + 1) c) (.iface ty (ptr g')) bk la 0 0 0) :: M' g') w')
 (g' : Nat) (h : Own w0 F0 (blk g (amO (.slice (some ⟨b, o, none⟩) (k + 1) c) (.iface ty (ptr g')) bk la 0 0 0) :: M g') w) :
 Calls Tryz.prog 295 #[ptr g, ptr m] w fun e w' => e = .returned (.bool false) /\ ∃ g', Own w0 F0 (blk g (amO (.slice (some ⟨b, o, none⟩) (k + 1) c) (.iface ty (ptr g')) bk la 0 0 0) :: M' g') w' := by
 have fe : ∀ w : World, (binOp .eql 134 (.pointer (some ⟨g, 0, none⟩)) (.pointer none)).run Tryz.prog w = .ok (.bool false) w := fun w => by kernel_rfl
 have fn := onNil
 have fs := onSome ty
 have H0 := hid (zZr h)
 obtain ⟨c0, c1, c2, c3, c4, c5, c6, c7, cf⟩ := zZx h
 have hk0 : (0 : Int) < ((k + 1 : Nat) : Int) := by omega
 have hk1 : 0 < k + 1 := by omega
 have Hs := fun g' w h => hid (HS g' w h)
 have HmS := hid hmS
 have HeS := hid heS
 clear HS hmS heS
 have HO := hid h
 unfold ptr at *
 clear h
 go_enter Tryz.func295, Tryz.ntmps295
 go_wp2_with fail
 refine H0.out.mono ?_
 rintro e w1 ⟨rfl, rfl⟩
 clear H0
 go_wp2_with fail
 rw [HmS.out]
 simp only [Result.andThen, HeS.out]
 refine (Hs _ _ HO.out).out.mono ?_
 rintro e w2 ⟨rfl, hO⟩
 clear Hs HO c0 c1 c2 c3 c4 c5 c6 c7 cf
 obtain ⟨c0, c1, c2, c3, c4, c5, c6, c7, cf⟩ := zZx hO
 have H0 := hid (zZr hO)
 have HF := hid hO
 clear hO
 unfold ptr at H0
 go_wp2_with fail
 refine H0.out.mono ?_
 rintro e w3 ⟨rfl, rfl⟩
 clear c0 c1 c2 c3 c4 c5 c6 c7 cf H0
 go_wp2_with fail
 go_ret
 exact ⟨rfl, g', HF.out⟩
theorem amStep_onE {b o k c : Nat} (ty : TypeId) (fS : FuncId) (M M' : Nat -> List Asn)
 (hmS : ∀ g' d w, (method (d + 2) ty (ptr g') "Step").run Tryz.prog w = .ok (fS, ptr g') w) (heS : ∀ args w, (callFunc fS args).run Tryz.prog w = .ok (.enter fS args) w)
 (fA : FuncId) (hmA : ∀ g' d w, (method (d + 2) ty (ptr g') "Ans").run Tryz.prog w = .ok (fA, ptr g') w) (heA : ∀ args w, (callFunc fA args).run Tryz.prog w = .ok (.enter fA args) w) (e1 a1 n1 : Int) (q : Bool) (R : World -> Prop)
 (HS : ∀ g' w, Own w0 F0 (blk g (amO (.slice (some ⟨b, o, none⟩) (k + 1) c) (.iface ty (ptr g')) bk la 0 0 0) :: M g') w -> Calls Tryz.prog fS #[ptr g', ptr m] w fun e w' => e = .returned (.bool true) /\ Own w0 F0 (blk g (amO (.slice (some ⟨b, o, none⟩) (k + 1) c) (.iface ty (ptr g')) bk la 0 0 0) :: M' g') w')
 (HA : ∀ g' w, Own w0 F0 (blk g (amO (.slice (some ⟨b, o, none⟩) (k + 1) c) (.iface ty (ptr g')) bk la 0 0 0) :: M' g') w -> Calls Tryz.prog fA #[ptr g'] w fun e w' => e = .returned (ansV e1 a1 false n1) /\ Below w.heap.size w w')
 (HN : ∀ g' w, Own w0 F0 (blk g (amO (.slice (some ⟨b, o, none⟩) (k + 1) c) (.iface ty (ptr g')) bk la 0 0 0) :: M' g') w -> Calls Tryz.prog 298 #[ptr g, ansV e1 a1 false n1] w fun e w' => e = .returned (.tuple #[]) /\ R w')
 (HE : ∀ w, R w -> Calls Tryz.prog 297 #[ptr g] w fun e w' => e = .returned (.bool q) /\ w = w')
 (g' : Nat) (h : Own w0 F0 (blk g (amO (.slice (some ⟨b, o, none⟩) (k + 1) c) (.iface ty (ptr g')) bk la 0 0 0) :: M g') w) :
 Calls Tryz.prog 295 #[ptr g, ptr m] w fun e w' => e = .returned (.bool q) /\ R w' := by
 have fe : ∀ w : World, (binOp .eql 134 (.pointer (some ⟨g, 0, none⟩)) (.pointer none)).run Tryz.prog w = .ok (.bool false) w := fun w => by kernel_rfl
 have fn := onNil
 have fs := onSome ty
 have H0 := hid (zZr h)
 obtain ⟨c0, c1, c2, c3, c4, c5, c6, c7, cf⟩ := zZx h
 have hk0 : (0 : Int) < ((k + 1 : Nat) : Int) := by omega
 have hk1 : 0 < k + 1 := by omega
 have Hs := fun g' w h => hid (HS g' w h)
 have HmS := hid hmS
 have HeS := hid heS
 clear HS hmS heS
 have Ha := fun g' w h => hid (HA g' w h)
 have Hn := fun g' w h => hid (HN g' w h)
 have He := fun w h => hid (HE w h)
 have HmA := hid hmA
 have HeA := hid heA
 clear HA HN HE hmA heA
 have HO := hid h
 unfold ptr ansV at *
 clear h
 go_enter Tryz.func295, Tryz.ntmps295
 go_wp2_with fail
 refine H0.out.mono ?_
 rintro e w1 ⟨rfl, rfl⟩
 clear H0
 go_wp2_with fail
 rw [HmS.out]
 simp only [Result.andThen, HeS.out]
 refine (Hs _ _ HO.out).out.mono ?_
 rintro e w2 ⟨rfl, hO⟩
 clear Hs HO c0 c1 c2 c3 c4 c5 c6 c7 cf
 obtain ⟨c0, c1, c2, c3, c4, c5, c6, c7, cf⟩ := zZx hO
 have HF := hid hO
 clear hO
 go_wp2_with fail
 rw [HmA.out]
 simp only [Result.andThen, HeA.out]
 refine (Ha _ _ HF.out).out.mono ?_
 rintro e w3 ⟨rfl, hB⟩
 have HG := hid (HF.out.below hB)
 clear c0 c1 c2 c3 c4 c5 c6 c7 cf hB HF Ha
 go_wp2_with fail
 refine (Hn _ _ HG.out).out.mono ?_
 rintro e w4 ⟨rfl, hR⟩
 have HR := hid hR
 clear hR HG Hn
 go_wp2_with fail
 refine (He _ HR.out).out.mono ?_
 rintro e w5 ⟨rfl, rfl⟩
 clear He
 go_wp2_with fail
 go_ret
 exact ⟨rfl, HR.out⟩
theorem amStep_nilM {b o k c : Nat} (ty : TypeId) (fS : FuncId) (M M' : Nat -> List Asn)
 (hmS : ∀ g' d w, (method (d + 2) ty (ptr g') "Step").run Tryz.prog w = .ok (fS, ptr g') w) (heS : ∀ args w, (callFunc fS args).run Tryz.prog w = .ok (.enter fS args) w)
 (K : FuncId) (cs : Array Value) (hg : ∀ args w, (callFunc K args).run Tryz.prog w = .ok (.enter K args) w) (hc : w.cell? ⟨b, o, none⟩ = some (.func (Fn.func K) #[] cs))
 (HM : Calls Tryz.prog K cs w fun e w' => ∃ g', e = .returned (.iface ty (ptr g')) /\ Own w0 F0 (blk g (amO (.slice (some ⟨b, o, none⟩) (k + 1) c) .nilIface bk la 0 0 0) :: M g') w')
 (HS : ∀ g' w, Own w0 F0 (blk g (amO (.slice (some ⟨b, o, none⟩) (k + 1) c) (.iface ty (ptr g')) bk la 0 0 0) :: M g') w -> Calls Tryz.prog fS #[ptr g', ptr m] w fun e w' => e = .returned (.bool false) /\ Own w0 F0 (blk g (amO (.slice (some ⟨b, o, none⟩) (k + 1) c) (.iface ty (ptr g')) bk la 0 0 0) :: M' g') w')
 (h : Own w0 F0 (blk g (amO (.slice (some ⟨b, o, none⟩) (k + 1) c) .nilIface bk la 0 0 0) :: L) w) :
 Calls Tryz.prog 295 #[ptr g, ptr m] w fun e w' => e = .returned (.bool false) /\ ∃ g', Own w0 F0 (blk g (amO (.slice (some ⟨b, o, none⟩) (k + 1) c) (.iface ty (ptr g')) bk la 0 0 0) :: M' g') w' := by
 have fe : ∀ w : World, (binOp .eql 134 (.pointer (some ⟨g, 0, none⟩)) (.pointer none)).run Tryz.prog w = .ok (.bool false) w := fun w => by kernel_rfl
 have fn := onNil
 have fs := onSome ty
 have H0 := hid (zZr h)
 obtain ⟨c0, c1, c2, c3, c4, c5, c6, c7, cf⟩ := zZx h
 have hk0 : (0 : Int) < ((k + 1 : Nat) : Int) := by omega
 have hk1 : 0 < k + 1 := by omega
 have Hs := fun g' w h => hid (HS g' w h)
 have HmS := hid hmS
 have HeS := hid heS
 clear HS hmS heS
 have Hm := hid HM
 have Hg := hid hg
 clear HM hg
 unfold ptr at *
 clear h
 go_enter Tryz.func295, Tryz.ntmps295
 go_wp2_with fail
 refine H0.out.mono ?_
 rintro e w1 ⟨rfl, rfl⟩
 clear H0
 go_wp2_with fail
 rw [Hg.out]
 refine Hm.out.mono ?_
 rintro e w1 ⟨g', rfl, hO⟩
 clear c0 c1 c2 c3 c4 c5 c6 c7 cf hc Hm Hg
 have H1 := hid (hO.set 1 (.iface ty (.pointer (some ⟨g', 0, none⟩))))
 obtain ⟨c0, c1, c2, c3, c4, c5, c6, c7, cf⟩ := zZx hO
 clear hO
 go_wp2_with fail
 have h1 : Own w0 F0 (blk g (amO (.slice (some ⟨b, o, none⟩) (k + 1) c) (.iface ty (.pointer (some ⟨g', 0, none⟩))) bk la 0 0 0) :: M g') _ := H1.out
 clear H1
 have HO := hid h1
 clear c0 c1 c2 c3 c4 c5 c6 c7 cf h1
 rw [HmS.out]
 simp only [Result.andThen, HeS.out]
 refine (Hs _ _ HO.out).out.mono ?_
 rintro e w2 ⟨rfl, hO⟩
 clear Hs HO
 obtain ⟨c0, c1, c2, c3, c4, c5, c6, c7, cf⟩ := zZx hO
 have H0 := hid (zZr hO)
 have HF := hid hO
 clear hO
 unfold ptr at H0
 go_wp2_with fail
 refine H0.out.mono ?_
 rintro e w3 ⟨rfl, rfl⟩
 clear c0 c1 c2 c3 c4 c5 c6 c7 cf H0
 go_wp2_with fail
 go_ret
 exact ⟨rfl, g', HF.out⟩
theorem amStep_nilE {b o k c : Nat} (ty : TypeId) (fS : FuncId) (M M' : Nat -> List Asn)
 (hmS : ∀ g' d w, (method (d + 2) ty (ptr g') "Step").run Tryz.prog w = .ok (fS, ptr g') w) (heS : ∀ args w, (callFunc fS args).run Tryz.prog w = .ok (.enter fS args) w)
 (fA : FuncId) (hmA : ∀ g' d w, (method (d + 2) ty (ptr g') "Ans").run Tryz.prog w = .ok (fA, ptr g') w) (heA : ∀ args w, (callFunc fA args).run Tryz.prog w = .ok (.enter fA args) w) (e1 a1 n1 : Int) (q : Bool) (R : World -> Prop)
 (K : FuncId) (cs : Array Value) (hg : ∀ args w, (callFunc K args).run Tryz.prog w = .ok (.enter K args) w) (hc : w.cell? ⟨b, o, none⟩ = some (.func (Fn.func K) #[] cs))
 (HM : Calls Tryz.prog K cs w fun e w' => ∃ g', e = .returned (.iface ty (ptr g')) /\ Own w0 F0 (blk g (amO (.slice (some ⟨b, o, none⟩) (k + 1) c) .nilIface bk la 0 0 0) :: M g') w')
 (HS : ∀ g' w, Own w0 F0 (blk g (amO (.slice (some ⟨b, o, none⟩) (k + 1) c) (.iface ty (ptr g')) bk la 0 0 0) :: M g') w -> Calls Tryz.prog fS #[ptr g', ptr m] w fun e w' => e = .returned (.bool true) /\ Own w0 F0 (blk g (amO (.slice (some ⟨b, o, none⟩) (k + 1) c) (.iface ty (ptr g')) bk la 0 0 0) :: M' g') w')
 (HA : ∀ g' w, Own w0 F0 (blk g (amO (.slice (some ⟨b, o, none⟩) (k + 1) c) (.iface ty (ptr g')) bk la 0 0 0) :: M' g') w -> Calls Tryz.prog fA #[ptr g'] w fun e w' => e = .returned (ansV e1 a1 false n1) /\ Below w.heap.size w w')
 (HN : ∀ g' w, Own w0 F0 (blk g (amO (.slice (some ⟨b, o, none⟩) (k + 1) c) (.iface ty (ptr g')) bk la 0 0 0) :: M' g') w -> Calls Tryz.prog 298 #[ptr g, ansV e1 a1 false n1] w fun e w' => e = .returned (.tuple #[]) /\ R w')
 (HE : ∀ w, R w -> Calls Tryz.prog 297 #[ptr g] w fun e w' => e = .returned (.bool q) /\ w = w')
 (h : Own w0 F0 (blk g (amO (.slice (some ⟨b, o, none⟩) (k + 1) c) .nilIface bk la 0 0 0) :: L) w) :
 Calls Tryz.prog 295 #[ptr g, ptr m] w fun e w' => e = .returned (.bool q) /\ R w' := by
 have fe : ∀ w : World, (binOp .eql 134 (.pointer (some ⟨g, 0, none⟩)) (.pointer none)).run Tryz.prog w = .ok (.bool false) w := fun w => by kernel_rfl
 have fn := onNil
 have fs := onSome ty
 have H0 := hid (zZr h)
 obtain ⟨c0, c1, c2, c3, c4, c5, c6, c7, cf⟩ := zZx h
 have hk0 : (0 : Int) < ((k + 1 : Nat) : Int) := by omega
 have hk1 : 0 < k + 1 := by omega
 have Hs := fun g' w h => hid (HS g' w h)
 have HmS := hid hmS
 have HeS := hid heS
 clear HS hmS heS
 have Ha := fun g' w h => hid (HA g' w h)
 have Hn := fun g' w h => hid (HN g' w h)
 have He := fun w h => hid (HE w h)
 have HmA := hid hmA
 have HeA := hid heA
 clear HA HN HE hmA heA
 have Hm := hid HM
 have Hg := hid hg
 clear HM hg
 unfold ptr ansV at *
 clear h
 go_enter Tryz.func295, Tryz.ntmps295
 go_wp2_with fail
 refine H0.out.mono ?_
 rintro e w1 ⟨rfl, rfl⟩
 clear H0
 go_wp2_with fail
 rw [Hg.out]
 refine Hm.out.mono ?_
 rintro e w1 ⟨g', rfl, hO⟩
 clear c0 c1 c2 c3 c4 c5 c6 c7 cf hc Hm Hg
 have H1 := hid (hO.set 1 (.iface ty (.pointer (some ⟨g', 0, none⟩))))
 obtain ⟨c0, c1, c2, c3, c4, c5, c6, c7, cf⟩ := zZx hO
 clear hO
 go_wp2_with fail
 have h1 : Own w0 F0 (blk g (amO (.slice (some ⟨b, o, none⟩) (k + 1) c) (.iface ty (.pointer (some ⟨g', 0, none⟩))) bk la 0 0 0) :: M g') _ := H1.out
 clear H1
 have HO := hid h1
 clear c0 c1 c2 c3 c4 c5 c6 c7 cf h1
 rw [HmS.out]
 simp only [Result.andThen, HeS.out]
 refine (Hs _ _ HO.out).out.mono ?_
 rintro e w2 ⟨rfl, hO⟩
 clear Hs HO
 obtain ⟨c0, c1, c2, c3, c4, c5, c6, c7, cf⟩ := zZx hO
 have HF := hid hO
 clear hO
 go_wp2_with fail
 rw [HmA.out]
 simp only [Result.andThen, HeA.out]
 refine (Ha _ _ HF.out).out.mono ?_
 rintro e w3 ⟨rfl, hB⟩
 have HG := hid (HF.out.below hB)
 clear c0 c1 c2 c3 c4 c5 c6 c7 cf hB HF Ha
 go_wp2_with fail
 refine (Hn _ _ HG.out).out.mono ?_
 rintro e w4 ⟨rfl, hR⟩
 have HR := hid hR
 clear hR HG Hn
 go_wp2_with fail
 refine (He _ HR.out).out.mono ?_
 rintro e w5 ⟨rfl, rfl⟩
 clear He
 go_wp2_with fail
 go_ret
 exact ⟨rfl, HR.out⟩
end
end
end Go.Proofs.YtdglnpfnjinbkaaGreat
