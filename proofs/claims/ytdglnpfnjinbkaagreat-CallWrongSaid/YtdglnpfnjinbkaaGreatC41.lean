/- Texts of elder layers, one behind the other: ReleaseDo, ReleaseGo. -/
import Derived.Test.YtdglnpfnjinbkaaGreatC40
import Derived.Deep.Upon
namespace Go.Proofs.YtdglnpfnjinbkaaGreat
open Go.ChangeShapes Go.WideShapes Go.ChangeAt Go.RowKit Go.Shelf
open Lib (hid)
set_option linter.unusedVariables false
set_option linter.unusedSimpArgs false
set_option maxRecDepth 100000
set_option maxHeartbeats 4000000
section
variable {w0 w w' W : World} {F0 : Nat -> Prop} {L : List Asn} {T : TypeId} {m : Nat} {ws : List Int} {lg : List Acc}
section
variable {g : Nat} {lf : Value} {c : Cf} {pp pl : Option Addr} {np cp nl cl : Nat} {ti ve th wa nd n er an xd : Int}
theorem rlKeep_yes (hs : Sm c) (hn : np <= 12) (t0 : 0 <= ti) (t1 : ti <= 16) {q : Nat} (hq : lim c np + 2 * ti = (q : Int)) (hi : q < ws.length) (hI : I64 wa) (hv : ws.getD q 0 = wa) (hl : lg.length < 1000000) (h : Own w0 F0 (blk g (rlO lf c (.slice pp np cp) (.slice pl nl cl) ti ve th wa nd n er an xd) :: memA T m ws lg :: L) w) :
 Calls Tryz.prog 172 #[ptr g, ptr m] w fun e w' => ∃ b, e = .returned (.slice (some ⟨b, 0, none⟩) 1 1) /\ Own w0 F0 (blk b (one1 (mv 220 g)) :: blk g (rlO lf c (.slice pp np cp) (.slice pl nl cl) ti ve th (tnW wa 3) nd n er an xd) :: memA T m (ws.set q (tnW wa 3)) (lg ++ [⟨3, (q : Int), wa, tnW wa 3, true⟩]) :: L) w' := by
 have HT := hid (zWj 3 (Or.inr rfl) hI h)
 have HW := fun w (h : Own w0 F0 (blk g (rlO lf c (.slice pp np cp) (.slice pl nl cl) ti ve th wa nd n er an xd) :: memA T m ws lg :: L) w) => hid (zYv hs hn t0 t1 h)
 rw [hq] at HW
 have HC := fun x w (h : Own w0 F0 (blk g (rlO lf c (.slice pp np cp) (.slice pl nl cl) ti ve th wa nd n er an xd) :: memA T m ws lg :: L) w) => hid (zSe q wa x hi hl hv h.swap)
 have HO := hid h
 unfold ptr at *
 clear h hs hn t0 t1 hq hi hl hI hv
 generalize tnW wa 3 = X at *
 generalize lim c np + 2 * ti = R at *
 go_enter Tryz.func172, Tryz.ntmps172
 go_wp2_with fail
 refine HT.out.mono ?_
 rintro e w1 ⟨rfl, hB⟩
 have hO := (HO.out.below hB).drew
 clear hB HO HT
 obtain ⟨c0, c1, c2, c3, c4, c5, c6, c7, c8, c9, c10, c11, c12, c13, c14, c15, c16, c17, c18, cf⟩ := zZm hO
 clear cf
 go_wp2_with fail
 go_region_held3 (fun w' => w'.cell? ⟨g, 12, none⟩ = some (.int .i64 wa)) (go_keep) (first | (go_at_call 168; refine (HW _ (by with_reducible assumption)).out.mono ?_; rintro e w' ⟨rfl, hB'⟩; have hO := Own.below (by with_reducible assumption) hB'; have hB : Stp _ w' := hB'; have c12 := Stp.cell hB c12) | (go_at_call 219; refine (HC _ _ (by with_reducible assumption)).out.mono ?_; rintro e w' ⟨rfl, hO2⟩; obtain ⟨c0, c1, c2, c3, c4, c5, c6, c7, c8, c9, c10, c11, c12, c13, c14, c15, c16, c17, c18, cf⟩ := zZm hO2.swap; clear cf))
 all_goals
  have HF := hid hO2.swap
  clear hO hO2 HW HC c0 c1 c2 c3 c4 c5 c6 c7 c8 c9 c10 c11 c12 c13 c14 c15 c16 c17 c18
  obtain ⟨c0, c1, c2, c3, c4, c5, c6, c7, c8, c9, c10, c11, c12, c13, c14, c15, c16, c17, c18, cf⟩ := zZm HF.out
  have HN := hid ((HF.out.set 12 (.int .i64 X)).new (one1 (mv 220 g)))
  simp only [World.size_setCell] at HN
  clear HF
  unfold one1 mv ptr at *
  go_wp2_with fail
  go_ret
  exact ⟨_, rfl, HN.out⟩
theorem rlKeep_no (hs : Sm c) (hn : np <= 12) (t0 : 0 <= ti) (t1 : ti <= 16) {q : Nat} (hq : lim c np + 2 * ti = (q : Int)) (hi : q < ws.length) (hI : I64 wa) (hv : ws.getD q 0 ≠ wa) (hl : lg.length < 1000000) (h : Own w0 F0 (blk g (rlO lf c (.slice pp np cp) (.slice pl nl cl) ti ve th wa nd n er an xd) :: memA T m ws lg :: L) w) :
 Calls Tryz.prog 172 #[ptr g, ptr m] w fun e w' => e = .returned (.slice none 0 0) /\ Own w0 F0 (blk g (rlO lf c (.slice pp np cp) (.slice pl nl cl) ti ve th wa nd n 5 0 0) :: memA T m ws (lg ++ [⟨3, (q : Int), wa, tnW wa 3, false⟩]) :: L) w' := by
 have HT := hid (zWj 3 (Or.inr rfl) hI h)
 have HW := fun w (h : Own w0 F0 (blk g (rlO lf c (.slice pp np cp) (.slice pl nl cl) ti ve th wa nd n er an xd) :: memA T m ws lg :: L) w) => hid (zYv hs hn t0 t1 h)
 rw [hq] at HW
 have HC := fun x w (h : Own w0 F0 (blk g (rlO lf c (.slice pp np cp) (.slice pl nl cl) ti ve th wa nd n er an xd) :: memA T m ws lg :: L) w) => hid (Cas_no q wa x hi hl hv h.swap)
 have HO := hid h
 unfold ptr at *
 clear h hs hn t0 t1 hq hi hl hI hv
 generalize tnW wa 3 = X at *
 generalize lim c np + 2 * ti = R at *
 go_enter Tryz.func172, Tryz.ntmps172
 go_wp2_with fail
 refine HT.out.mono ?_
 rintro e w1 ⟨rfl, hB⟩
 have hO := (HO.out.below hB).drew
 clear hB HO HT
 obtain ⟨c0, c1, c2, c3, c4, c5, c6, c7, c8, c9, c10, c11, c12, c13, c14, c15, c16, c17, c18, cf⟩ := zZm hO
 clear cf
 go_wp2_with fail
 go_region_held3 (fun w' => w'.cell? ⟨g, 12, none⟩ = some (.int .i64 wa)) (go_keep) (first | (go_at_call 168; refine (HW _ (by with_reducible assumption)).out.mono ?_; rintro e w' ⟨rfl, hB'⟩; have hO := Own.below (by with_reducible assumption) hB'; have hB : Stp _ w' := hB'; have c12 := Stp.cell hB c12) | (go_at_call 219; refine (HC _ _ (by with_reducible assumption)).out.mono ?_; rintro e w' ⟨rfl, hO2⟩; obtain ⟨c0, c1, c2, c3, c4, c5, c6, c7, c8, c9, c10, c11, c12, c13, c14, c15, c16, c17, c18, cf⟩ := zZm hO2.swap; clear cf))
 all_goals
  have HF := hid hO2.swap
  clear hO hO2 HW HC c0 c1 c2 c3 c4 c5 c6 c7 c8 c9 c10 c11 c12 c13 c14 c15 c16 c17 c18
  have HR := hid (zWk HF.out)
  clear HF
  unfold ptr at HR
  go_wp2_with fail
  refine HR.out.mono ?_
  rintro e w5 ⟨rfl, hO⟩
  have HN := hid hO
  clear hO HR
  go_wp2_with fail
  go_ret
  exact ⟨rfl, HN.out⟩
theorem rlFree_any (hs : Sm c) (hn : np <= 12) (t0 : 0 <= ti) (t1 : ti <= 16) {q : Nat} (hq : lim c np + 2 * ti = (q : Int)) (hi : q < ws.length) (hI : I64 wa) (hl : lg.length < 1000000) (h : Own w0 F0 (blk g (rlO lf c (.slice pp np cp) (.slice pl nl cl) ti ve th wa nd n er an xd) :: memA T m ws lg :: L) w) :
 Calls Tryz.prog 239 #[ptr g, ptr m] w fun e w' => e = .returned (.slice none 0 0) /\ Own w0 F0 (blk g (rlO lf c (.slice pp np cp) (.slice pl nl cl) ti ve th wa nd n 0 n nd) :: memA T m (ws.set q (tnW wa 0)) (lg ++ [⟨4, (q : Int), tnW wa 0, 0, false⟩]) :: L) w' := by
 have HT := fun w (h : Own w0 F0 (blk g (rlO lf c (.slice pp np cp) (.slice pl nl cl) ti ve th wa nd n er an xd) :: memA T m ws lg :: L) w) => hid (zWj 0 (Or.inl rfl) hI h)
 have HW := fun w (h : Own w0 F0 (blk g (rlO lf c (.slice pp np cp) (.slice pl nl cl) ti ve th wa nd n er an xd) :: memA T m ws lg :: L) w) => hid (zYv hs hn t0 t1 h)
 rw [hq] at HW
 have HC := fun x w (h : Own w0 F0 (blk g (rlO lf c (.slice pp np cp) (.slice pl nl cl) ti ve th wa nd n er an xd) :: memA T m ws lg :: L) w) => hid (Store_any q x hi hl h.swap)
 have HO := hid h
 unfold ptr at *
 clear h hs hn t0 t1 hq hi hl hI
 generalize tnW wa 0 = X at *
 generalize lim c np + 2 * ti = R at *
 go_enter Tryz.func239, Tryz.ntmps239
 go_wp2_with fail
 refine (HW _ HO.out).out.mono ?_
 rintro e w1 ⟨rfl, hB⟩
 have HO1 := hid (HO.out.below hB)
 clear hB HO HW
 go_wp2_with fail
 refine (HT _ HO1.out).out.mono ?_
 rintro e w2 ⟨rfl, hB⟩
 have HO2 := hid (HO1.out.below hB)
 clear hB HO1 HT
 go_wp2_with fail
 refine (HC _ _ HO2.out).out.mono ?_
 rintro e w3 ⟨rfl, hO⟩
 have hO3 := hO.swap
 have HF := hid ((((hO3.set 15 (.int .i64 0)).set 16 (.int .i64 n)).set 17 (.bool false)).set 18 (.int .i64 nd))
 obtain ⟨c0, c1, c2, c3, c4, c5, c6, c7, c8, c9, c10, c11, c12, c13, c14, c15, c16, c17, c18, cf⟩ := zZm hO3
 clear HO2 hO hO3 HC
 go_wp2_with fail
 go_region
 all_goals
  go_wp2_with fail
  go_ret
  exact ⟨rfl, HF.out.drew⟩
end
section
variable {g b : Nat} {M M' : List Asn}
theorem rlMore_any (ty : TypeId) (fS : FuncId) (g' : Nat) (hmS : ∀ g' d w, (method (d + 2) ty (ptr g') "Step").run Tryz.prog w = .ok (fS, ptr g') w) (heS : ∀ args w, (callFunc fS args).run Tryz.prog w = .ok (.enter fS args) w)
 (HS : ∀ w, Own w0 F0 (blk b (ifO (.iface ty (ptr g'))) :: M) w -> Calls Tryz.prog fS #[ptr g', ptr m] w fun e w' => e = .returned (.bool false) /\ Own w0 F0 (blk b (ifO (.iface ty (ptr g'))) :: M') w')
 (h : Own w0 F0 (blk b (ifO (.iface ty (ptr g'))) :: M) w) :
 Calls Tryz.prog 260 #[ptr m, ptr b] w fun e w' => ∃ b1 b2, e = .returned (.slice (some ⟨b1, 0, none⟩) 1 1) /\ Own w0 F0 (blk b1 (one1 (clo 260 #[ptr b2])) :: blk b2 (ifO (.iface ty (ptr g'))) :: blk b (ifO (.iface ty (ptr g'))) :: M') w' := by
 have Hs := fun w h => hid (HS w h)
 have HmS := hid hmS
 have HeS := hid heS
 have HT := fun w (h : Own w0 F0 (blk b (ifO (.iface ty (ptr g'))) :: M') w) => hid (zVb ty g' h)
 have c0 : w.cell? ⟨b, 0, none⟩ = some (.iface ty (ptr g')) := h.cell (i := 0) rfl
 have HO := hid h
 clear HS hmS heS h
 unfold ptr at *
 go_enter Tryz.func260, Tryz.ntmps260
 go_wp2_with fail
 rw [HmS.out]
 simp only [Result.andThen, HeS.out]
 refine (Hs _ HO.out).out.mono ?_
 rintro e w2 ⟨rfl, hO⟩
 have HO2 := hid hO
 have c0 : w2.cell? ⟨b, 0, none⟩ = some (.iface ty (.pointer (some ⟨g', 0, none⟩))) := hO.cell (i := 0) rfl
 clear hO HO Hs
 go_wp2_with fail
 refine (HT _ HO2.out).out.mono ?_
 rintro e w3 ⟨b2, rfl, hO⟩
 have HN := hid (hO.new (one1 (clo 260 #[.pointer (some ⟨b2, 0, none⟩)])))
 unfold one1 clo at HN
 unfold clo
 clear hO HO2 HT
 go_wp2_with fail
 go_ret
 exact ⟨_, _, rfl, HN.out⟩
theorem zRc (ty : TypeId) (fS : FuncId) (g' : Nat) (hmS : ∀ g' d w, (method (d + 2) ty (ptr g') "Step").run Tryz.prog w = .ok (fS, ptr g') w) (heS : ∀ args w, (callFunc fS args).run Tryz.prog w = .ok (.enter fS args) w)
 (HS : ∀ w, Own w0 F0 (blk b (ifO (.iface ty (ptr g'))) :: M) w -> Calls Tryz.prog fS #[ptr g', ptr m] w fun e w' => e = .returned (.bool true) /\ Own w0 F0 (blk b (ifO (.iface ty (ptr g'))) :: M') w')
 (h : Own w0 F0 (blk b (ifO (.iface ty (ptr g'))) :: M) w) :
 Calls Tryz.prog 260 #[ptr m, ptr b] w fun e w' => e = .returned (.slice none 0 0) /\ Own w0 F0 (blk b (ifO (.iface ty (ptr g'))) :: M') w' := by
 have Hs := fun w h => hid (HS w h)
 have HmS := hid hmS
 have HeS := hid heS
 have c0 : w.cell? ⟨b, 0, none⟩ = some (.iface ty (ptr g')) := h.cell (i := 0) rfl
 have HO := hid h
 clear HS hmS heS h
 unfold ptr at *
 go_enter Tryz.func260, Tryz.ntmps260
 go_wp2_with fail
 rw [HmS.out]
 simp only [Result.andThen, HeS.out]
 refine (Hs _ HO.out).out.mono ?_
 rintro e w2 ⟨rfl, hO⟩
 have HO2 := hid hO
 clear hO HO Hs c0
 go_wp2_with fail
 go_ret
 exact ⟨rfl, HO2.out⟩
end
theorem en_stp : ∀ args w, (callFunc 260 args).run Tryz.prog w = .ok (.enter 260 args) w := enters_of Tryz.func260 (by kernel_rfl) rfl
section
variable {b : Nat} {R : Value -> World -> Prop}
theorem zWl (ty : TypeId) (K : FuncId) (cs : Array Value) (M : Nat -> List Asn) (hK : ∀ args w, (callFunc K args).run Tryz.prog w = .ok (.enter K args) w) (hc : w.cell? ⟨b, 0, none⟩ = some (clo K cs))
 (HM : Calls Tryz.prog K cs w fun e w' => ∃ g', e = .returned (.iface ty (ptr g')) /\ Own w0 F0 (M g') w')
 (HS : ∀ b2 g' w, Own w0 F0 (blk b2 (ifO (.iface ty (ptr g'))) :: M g') w -> Calls Tryz.prog 260 #[ptr m, ptr b2] w fun e w' => ∃ v, e = .returned v /\ R v w') :
 Calls Tryz.prog 252 #[ptr m, ptr b] w fun e w' => ∃ v, e = .returned v /\ R v w' := by
 have HT := fun g' w (h : Own w0 F0 (M g') w) => hid (zVb ty g' h)
 have Hs := fun b2 g' w h => hid (HS b2 g' w h)
 have Hm := hid HM
 have He := hid en_stp
 have Hk := hid hK
 unfold clo ptr at *
 clear HS HM hK
 go_enter Tryz.func252, Tryz.ntmps252
 go_wp2_with fail
 simp only [Result.andThen, Hk.out, Array.empty_append, Array.append_empty]
 refine Hm.out.mono ?_
 rintro e w2 ⟨g', rfl, hO⟩
 have HO := hid hO
 clear hO Hm hc
 go_wp2_with fail
 refine (HT _ _ HO.out).out.mono ?_
 rintro e w3 ⟨b2, rfl, hO⟩
 have HO2 := hid hO
 clear hO HO HT
 go_wp2_with fail
 try simp only [Result.andThen, He.out, Array.empty_append, Array.append_empty]
 refine (Hs _ _ _ HO2.out).out.mono ?_
 rintro e w4 ⟨v, rfl, hR⟩
 have HR := hid hR
 clear hR HO2 Hs
 go_wp2_with fail
 go_ret
 exact ⟨v, rfl, HR.out⟩
end
end
section
variable {w0 w w' W : World} {F0 : Nat -> Prop} {L : List Asn} {T : TypeId} {m : Nat} {ws : List Int} {lg : List Acc}
theorem Tryz.info_step : (Tryz.prog.info? 253).map (fun i => (i.zero, i.size, i.bytes)) = some (some .nilFunc, 1, 8) := by kernel_rfl
def srow (v : Value) (n : Nat) (xs : List Value) : Asn := row v 253 1 n xs
theorem zR5 {b k cap : Nat} {F : Value} {xs : List Value} (h : Own w0 F0 (srow (.slice (some ⟨b, 0, none⟩) (k + 1) cap) (k + 1) (F :: xs) :: L) w) : w.cell? ⟨b, 0, none⟩ = some F /\ ∀ j u, xs[j]? = some u -> w.cell? ((⟨b, 1, none⟩ : Addr).add j) = some u := by
 have hc : ∀ j u, (F :: xs)[j]? = some u -> w.cell? ((⟨b, 0, none⟩ : Addr).add j) = some u := (Own.isRow h).cells (g := b) rfl
 refine ⟨hc 0 F rfl, fun j u hu => ?_⟩
 have := hc (j + 1) u hu
 rw [show (⟨b, 0, none⟩ : Addr).add (j + 1) = (⟨b, 1, none⟩ : Addr).add j by unfold Addr.add; simp [Nat.add_comm]] at this
 exact this
section
variable {g : Nat} {lf : Value} {c : Cf} {vp vl : Value} {ti ve th wa nd n er an xd wa' nd' n' er' an' xd' : Int}
theorem rlStep_end {q : Option Addr} {z : Nat} (r : Value) (h : Own w0 F0 (blk g (rlO (.slice q 0 z) c vp vl ti ve th wa nd n er an xd) :: L) w) :
 Calls Tryz.prog 302 #[ptr g, r] w fun e w' => e = .returned (.bool true) /\ w = w' := by
 have fe : ∀ w : World, (binOp .eql 136 (.pointer (some ⟨g, 0, none⟩)) (.pointer none)).run Tryz.prog w = .ok (.bool false) w := fun w => by kernel_rfl
 have HE := hid (zVk h)
 unfold ptr at *
 clear h
 go_enter Tryz.func302, Tryz.ntmps302
 go_wp2_with fail
 refine HE.out.mono ?_
 rintro e w1 ⟨rfl, rfl⟩
 go_wp2_with fail
 go_ret
 exact ⟨rfl, rfl⟩
theorem zW2 {K : FuncId} (hK : ∀ args w, (callFunc K args).run Tryz.prog w = .ok (.enter K args) w) {X : Type} {v : X -> Value} {n1 k : Nat} {ys : X -> List Value} {N : List Asn} {N' : X -> List Asn} {xs : List Value} (hn1 : n1 <= 100) (hk : k <= 100) (hx : xs.length = k) (hx1 : ∀ u ∈ xs, u.oneCell' = true)
 (HC : ∀ w lf, Own w0 F0 (blk g (rlO lf c vp vl ti ve th wa nd n er an xd) :: srow lf (k + 1) (mv K g :: xs) :: N) w -> Calls Tryz.prog K #[ptr g, ptr m] w fun e w' => ∃ x, e = .returned (v x) /\ Own w0 F0 (srow (v x) n1 (ys x) :: blk g (rlO lf c vp vl ti ve th wa' nd' n' er' an' xd') :: srow lf (k + 1) (mv K g :: xs) :: N' x) w')
 (h : Own w0 F0 (blk g (rlO lf c vp vl ti ve th wa nd n er an xd) :: srow lf (k + 1) (mv K g :: xs) :: N) w) :
 Calls Tryz.prog 302 #[ptr g, ptr m] w fun e w' => e = .returned (.bool (decide (n1 + k = 0))) /\ ∃ x v', Own w0 F0 (blk g (rlO v' c vp vl ti ve th wa' nd' n' er' an' xd') :: srow v' (n1 + k) (ys x ++ xs) :: N' x) w' := by
 have fe : ∀ w : World, (binOp .eql 136 (.pointer (some ⟨g, 0, none⟩)) (.pointer none)).run Tryz.prog w = .ok (.bool false) w := fun w => by kernel_rfl
 obtain ⟨b, cap, cur, rfl, q1, q2, q3, q4, q5, -⟩ := Own.rowBlk (show Own w0 F0 (row lf 253 1 (k + 1) (mv K g :: xs) :: _) w from h.swap) (by omega)
 clear q3 q4 q5
 have HE := hid (zW3 h)
 obtain ⟨c0, c1, c2, c3, c4, c5, c6, c7, c8, c9, c10, c11, c12, c13, c14, c15, c16, c17, c18, cf⟩ := zZm h
 obtain ⟨x0, -⟩ := zR5 h.swap
 have Hc := fun w h => hid (HC w (.slice (some ⟨b, 0, none⟩) (k + 1) cap) h)
 have Hk := hid hK
 have h2 : (1 : Int) <= ((k + 1 : Nat) : Int) := by omega
 have h2' : (0 : Int) < ((k + 1 : Nat) : Int) := by omega
 have h2n : 0 < k + 1 := by omega
 have h2m : 1 <= k + 1 := by omega
 have h3 : k + 1 <= 9223372036854775807 := by omega
 have e1 : k + 1 - 1 = k := by omega
 have hcap : 1 < cap ∨ ¬ 1 < cap := by omega
 obtain ⟨i0, hi0, hz0, hz1, hz2⟩ := info_parts Tryz.info_step
 have Hi0 := hid hi0
 have Hz0 := hid hz0
 have Hz1 := hid hz1
 have Hz2 := hid hz2
 have B1 := hid (show n1 + k <= maxLen by unfold maxLen; omega)
 have B2 := hid (show (n1 + k) * 8 <= 140737488355328 by omega)
 have Hx := hid (show xs.length = k * 1 by omega)
 have Hx1 := hid hx1
 have HC1 := hid (show ¬ 1 < cap -> cap = 1 by omega)
 have HX0 := hid (show ¬ 1 < cap -> ∀ (w2 : World) j u, xs[j]? = some u -> w2.cell? ((⟨b, 0, none⟩ : Addr).add j) = some u from fun hc w2 j u hu => by
  rw [List.eq_nil_of_length_eq_zero (show xs.length = 0 by omega)] at hu; cases hu)
 have HO := hid h
 -- what stands behind the call, and behind the append
 have HA := fun x w2 (h : Own w0 F0 (srow (v x) n1 (ys x) :: blk g (rlO (.slice (some ⟨b, 0, none⟩) (k + 1) cap) c vp vl ti ve th wa' nd' n' er' an' xd') :: srow (.slice (some ⟨b, 0, none⟩) (k + 1) cap) (k + 1) (mv K g :: xs) :: N' x) w2) => hid (zR5 h.p2).2
 have HB := fun x v' w2 (h : Own w0 F0 (row v' 253 1 (n1 + k) (ys x ++ xs) :: blk g (rlO (.slice (some ⟨b, 0, none⟩) (k + 1) cap) c vp vl ti ve th wa' nd' n' er' an' xd') :: srow (.slice (some ⟨b, 0, none⟩) (k + 1) cap) (k + 1) (mv K g :: xs) :: N' x) w2) => hid (show Own w0 F0 (blk g (rlO v' c vp vl ti ve th wa' nd' n' er' an' xd') :: srow v' (n1 + k) (ys x ++ xs) :: N' x) (w2.setCell ⟨g, 0, none⟩ v') from (h.swap.set 0 v').under fun _ _ h => Own.under h fun _ _ h => h.drop)
 have HD := fun x v' w2 (h : Own w0 F0 (row v' 253 1 (n1 + k) (ys x ++ xs) :: blk g (rlO (.slice (some ⟨b, 0, none⟩) (k + 1) cap) c vp vl ti ve th wa' nd' n' er' an' xd') :: srow (.slice (some ⟨b, 0, none⟩) (k + 1) cap) (k + 1) (mv K g :: xs) :: N' x) w2) => zZm h.swap
 have HG := fun x w2 (h : Own w0 F0 (srow (v x) n1 (ys x) :: blk g (rlO (.slice (some ⟨b, 0, none⟩) (k + 1) cap) c vp vl ti ve th wa' nd' n' er' an' xd') :: srow (.slice (some ⟨b, 0, none⟩) (k + 1) cap) (k + 1) (mv K g :: xs) :: N' x) w2) => zZm h.swap
 have HEE : ∀ x p' cp' w2, Own w0 F0 (blk g (rlO (.slice p' (n1 + k) cp') c vp vl ti ve th wa' nd' n' er' an' xd') :: srow (.slice p' (n1 + k) cp') (n1 + k) (ys x ++ xs) :: N' x) w2 -> Hid (Calls Tryz.prog 303 #[ptr g] w2 fun en w' => en = .returned (.bool (decide (n1 + k = 0))) /\ w2 = w') := fun x p' cp' w2 h => by
  refine hid ?_
  rcases Nat.eq_zero_or_pos (n1 + k) with e | e
  ·rw [e] at h ⊢; exact zVk h
  ·obtain ⟨z, hz⟩ : ∃ z, n1 + k = z + 1 := ⟨n1 + k - 1, by omega⟩
   rw [hz] at h ⊢
   exact zW3 h
 clear hi0 hz0 hz1 hz2 h hx hx1 hK HC q1 q2 hn1 hk
 try unfold mv at *
 try unfold clo at *
 unfold ptr at *
 generalize decide (n1 + k = 0) = D at *
 generalize hkk : k + 1 = kk at *
 rcases hcap with hcap | hcap
 ·clear hkk
  go_enter Tryz.func302, Tryz.ntmps302
  go_wp2_with fail
  refine HE.out.mono ?_
  rintro e w1 ⟨rfl, rfl⟩
  clear HE
  go_wp2_with fail
  try simp only [Result.andThen, Hk.out, Array.empty_append, Array.append_empty]
  refine (Hc _ HO.out).out.mono ?_
  rintro e w2 ⟨x, rfl, hO⟩
  clear c0 c1 c2 c3 c4 c5 c6 c7 c8 c9 c10 c11 c12 c13 c14 c15 c16 c17 c18 cf x0 HO Hc
  have Hnw := HA x w2 hO
  obtain ⟨c0, c1, c2, c3, c4, c5, c6, c7, c8, c9, c10, c11, c12, c13, c14, c15, c16, c17, c18, cf⟩ := HG x w2 hO
  have HR := hid hO
  clear hO HA HG
  go_wp2_with (first | (at_builtin; refine zZf rfl (.tmp 21) (.tmp 26) 160 rfl 253 i0 _ Tryz.underlying160 Hi0.out Hz0.out Hz1.out Hz2.out rfl (by decide) rfl HR.out ⟨b, 1, none⟩ k (cap - 1) xs rfl Hx.out Hnw.out Hx1.out B1.out B2.out ?_; intro v' w8 hR hgr hnn; obtain ⟨p', cp', rfl⟩ := zZe hR; have HF := HB x _ _ hR; clear c0 c1 c2 c3 c4 c5 c6 c7 c8 c9 c10 c11 c12 c13 c14 c15 c16 c17 c18 cf; obtain ⟨c0, c1, c2, c3, c4, c5, c6, c7, c8, c9, c10, c11, c12, c13, c14, c15, c16, c17, c18, cf⟩ := HD x _ _ hR; clear hgr hnn HR Hnw hR HB HD Hi0 Hz0 Hz1 Hz2 B1 B2 Hx Hx1) | (at_builtin; refine zZf rfl (.tmp 21) (.tmp 26) 160 rfl 253 i0 _ Tryz.underlying160 Hi0.out Hz0.out Hz1.out Hz2.out rfl (by decide) rfl HR.out ⟨b, 0, none⟩ k (cap - 1) xs rfl Hx.out (HX0.out hcap w2) Hx1.out B1.out B2.out ?_; intro v' w8 hR hgr hnn; obtain ⟨p', cp', rfl⟩ := zZe hR; have HF := HB x _ _ hR; clear c0 c1 c2 c3 c4 c5 c6 c7 c8 c9 c10 c11 c12 c13 c14 c15 c16 c17 c18 cf; obtain ⟨c0, c1, c2, c3, c4, c5, c6, c7, c8, c9, c10, c11, c12, c13, c14, c15, c16, c17, c18, cf⟩ := HD x _ _ hR; clear hgr hnn HR Hnw hR HB HD Hi0 Hz0 Hz1 Hz2 B1 B2 Hx Hx1))
  refine (HEE _ _ _ _ HF.out).out.mono ?_
  rintro e w9 ⟨rfl, rfl⟩
  clear c0 c1 c2 c3 c4 c5 c6 c7 c8 c9 c10 c11 c12 c13 c14 c15 c16 c17 c18 cf HEE
  go_wp2_with fail
  go_ret
  exact ⟨rfl, x, _, HF.out⟩
 ·obtain rfl : cap = 1 := HC1.out hcap
  clear hkk
  go_enter Tryz.func302, Tryz.ntmps302
  go_wp2_with fail
  refine HE.out.mono ?_
  rintro e w1 ⟨rfl, rfl⟩
  clear HE
  go_wp2_with fail
  try simp only [Result.andThen, Hk.out, Array.empty_append, Array.append_empty]
  refine (Hc _ HO.out).out.mono ?_
  rintro e w2 ⟨x, rfl, hO⟩
  clear c0 c1 c2 c3 c4 c5 c6 c7 c8 c9 c10 c11 c12 c13 c14 c15 c16 c17 c18 cf x0 HO Hc
  have Hnw := HA x w2 hO
  obtain ⟨c0, c1, c2, c3, c4, c5, c6, c7, c8, c9, c10, c11, c12, c13, c14, c15, c16, c17, c18, cf⟩ := HG x w2 hO
  have HR := hid hO
  clear hO HA HG
  go_wp2_with (first | (at_builtin; refine zZf rfl (.tmp 21) (.tmp 26) 160 rfl 253 i0 _ Tryz.underlying160 Hi0.out Hz0.out Hz1.out Hz2.out rfl (by decide) rfl HR.out ⟨b, 1, none⟩ k (1 - 1) xs rfl Hx.out Hnw.out Hx1.out B1.out B2.out ?_; intro v' w8 hR hgr hnn; obtain ⟨p', cp', rfl⟩ := zZe hR; have HF := HB x _ _ hR; clear c0 c1 c2 c3 c4 c5 c6 c7 c8 c9 c10 c11 c12 c13 c14 c15 c16 c17 c18 cf; obtain ⟨c0, c1, c2, c3, c4, c5, c6, c7, c8, c9, c10, c11, c12, c13, c14, c15, c16, c17, c18, cf⟩ := HD x _ _ hR; clear hgr hnn HR Hnw hR HB HD Hi0 Hz0 Hz1 Hz2 B1 B2 Hx Hx1) | (at_builtin; refine zZf rfl (.tmp 21) (.tmp 26) 160 rfl 253 i0 _ Tryz.underlying160 Hi0.out Hz0.out Hz1.out Hz2.out rfl (by decide) rfl HR.out ⟨b, 0, none⟩ k (1 - 1) xs rfl Hx.out (HX0.out hcap w2) Hx1.out B1.out B2.out ?_; intro v' w8 hR hgr hnn; obtain ⟨p', cp', rfl⟩ := zZe hR; have HF := HB x _ _ hR; clear c0 c1 c2 c3 c4 c5 c6 c7 c8 c9 c10 c11 c12 c13 c14 c15 c16 c17 c18 cf; obtain ⟨c0, c1, c2, c3, c4, c5, c6, c7, c8, c9, c10, c11, c12, c13, c14, c15, c16, c17, c18, cf⟩ := HD x _ _ hR; clear hgr hnn HR Hnw hR HB HD Hi0 Hz0 Hz1 Hz2 B1 B2 Hx Hx1))
  refine (HEE _ _ _ _ HF.out).out.mono ?_
  rintro e w9 ⟨rfl, rfl⟩
  clear c0 c1 c2 c3 c4 c5 c6 c7 c8 c9 c10 c11 c12 c13 c14 c15 c16 c17 c18 cf HEE
  go_wp2_with fail
  go_ret
  exact ⟨rfl, x, _, HF.out⟩
theorem zQa {K : FuncId} {bx : Nat} (hK : ∀ args w, (callFunc K args).run Tryz.prog w = .ok (.enter K args) w) {X : Type} {v : X -> Value} {n1 k : Nat} {ys : X -> List Value} {N : List Asn} {N' : X -> List Asn} {xs : List Value} (hn1 : n1 <= 100) (hk : k <= 100) (hx : xs.length = k) (hx1 : ∀ u ∈ xs, u.oneCell' = true)
 (HC : ∀ w lf, Own w0 F0 (blk g (rlO lf c vp vl ti ve th wa nd n er an xd) :: srow lf (k + 1) (clo K #[ptr bx] :: xs) :: N) w -> Calls Tryz.prog K #[ptr m, ptr bx] w fun e w' => ∃ x, e = .returned (v x) /\ Own w0 F0 (srow (v x) n1 (ys x) :: blk g (rlO lf c vp vl ti ve th wa' nd' n' er' an' xd') :: srow lf (k + 1) (clo K #[ptr bx] :: xs) :: N' x) w')
 (h : Own w0 F0 (blk g (rlO lf c vp vl ti ve th wa nd n er an xd) :: srow lf (k + 1) (clo K #[ptr bx] :: xs) :: N) w) :
 Calls Tryz.prog 302 #[ptr g, ptr m] w fun e w' => e = .returned (.bool (decide (n1 + k = 0))) /\ ∃ x v', Own w0 F0 (blk g (rlO v' c vp vl ti ve th wa' nd' n' er' an' xd') :: srow v' (n1 + k) (ys x ++ xs) :: N' x) w' := by
 have fe : ∀ w : World, (binOp .eql 136 (.pointer (some ⟨g, 0, none⟩)) (.pointer none)).run Tryz.prog w = .ok (.bool false) w := fun w => by kernel_rfl
 obtain ⟨b, cap, cur, rfl, q1, q2, q3, q4, q5, -⟩ := Own.rowBlk (show Own w0 F0 (row lf 253 1 (k + 1) (clo K #[ptr bx] :: xs) :: _) w from h.swap) (by omega)
 clear q3 q4 q5
 have HE := hid (zW3 h)
 obtain ⟨c0, c1, c2, c3, c4, c5, c6, c7, c8, c9, c10, c11, c12, c13, c14, c15, c16, c17, c18, cf⟩ := zZm h
 obtain ⟨x0, -⟩ := zR5 h.swap
 have Hc := fun w h => hid (HC w (.slice (some ⟨b, 0, none⟩) (k + 1) cap) h)
 have Hk := hid hK
 have h2 : (1 : Int) <= ((k + 1 : Nat) : Int) := by omega
 have h2' : (0 : Int) < ((k + 1 : Nat) : Int) := by omega
 have h2n : 0 < k + 1 := by omega
 have h2m : 1 <= k + 1 := by omega
 have h3 : k + 1 <= 9223372036854775807 := by omega
 have e1 : k + 1 - 1 = k := by omega
 have hcap : 1 < cap ∨ ¬ 1 < cap := by omega
 obtain ⟨i0, hi0, hz0, hz1, hz2⟩ := info_parts Tryz.info_step
 have Hi0 := hid hi0
 have Hz0 := hid hz0
 have Hz1 := hid hz1
 have Hz2 := hid hz2
 have B1 := hid (show n1 + k <= maxLen by unfold maxLen; omega)
 have B2 := hid (show (n1 + k) * 8 <= 140737488355328 by omega)
 have Hx := hid (show xs.length = k * 1 by omega)
 have Hx1 := hid hx1
 have HC1 := hid (show ¬ 1 < cap -> cap = 1 by omega)
 have HX0 := hid (show ¬ 1 < cap -> ∀ (w2 : World) j u, xs[j]? = some u -> w2.cell? ((⟨b, 0, none⟩ : Addr).add j) = some u from fun hc w2 j u hu => by
  rw [List.eq_nil_of_length_eq_zero (show xs.length = 0 by omega)] at hu; cases hu)
 have HO := hid h
 -- what stands behind the call, and behind the append
 have HA := fun x w2 (h : Own w0 F0 (srow (v x) n1 (ys x) :: blk g (rlO (.slice (some ⟨b, 0, none⟩) (k + 1) cap) c vp vl ti ve th wa' nd' n' er' an' xd') :: srow (.slice (some ⟨b, 0, none⟩) (k + 1) cap) (k + 1) (clo K #[ptr bx] :: xs) :: N' x) w2) => hid (zR5 h.p2).2
 have HB := fun x v' w2 (h : Own w0 F0 (row v' 253 1 (n1 + k) (ys x ++ xs) :: blk g (rlO (.slice (some ⟨b, 0, none⟩) (k + 1) cap) c vp vl ti ve th wa' nd' n' er' an' xd') :: srow (.slice (some ⟨b, 0, none⟩) (k + 1) cap) (k + 1) (clo K #[ptr bx] :: xs) :: N' x) w2) => hid (show Own w0 F0 (blk g (rlO v' c vp vl ti ve th wa' nd' n' er' an' xd') :: srow v' (n1 + k) (ys x ++ xs) :: N' x) (w2.setCell ⟨g, 0, none⟩ v') from (h.swap.set 0 v').under fun _ _ h => Own.under h fun _ _ h => h.drop)
 have HD := fun x v' w2 (h : Own w0 F0 (row v' 253 1 (n1 + k) (ys x ++ xs) :: blk g (rlO (.slice (some ⟨b, 0, none⟩) (k + 1) cap) c vp vl ti ve th wa' nd' n' er' an' xd') :: srow (.slice (some ⟨b, 0, none⟩) (k + 1) cap) (k + 1) (clo K #[ptr bx] :: xs) :: N' x) w2) => zZm h.swap
 have HG := fun x w2 (h : Own w0 F0 (srow (v x) n1 (ys x) :: blk g (rlO (.slice (some ⟨b, 0, none⟩) (k + 1) cap) c vp vl ti ve th wa' nd' n' er' an' xd') :: srow (.slice (some ⟨b, 0, none⟩) (k + 1) cap) (k + 1) (clo K #[ptr bx] :: xs) :: N' x) w2) => zZm h.swap
 have HEE : ∀ x p' cp' w2, Own w0 F0 (blk g (rlO (.slice p' (n1 + k) cp') c vp vl ti ve th wa' nd' n' er' an' xd') :: srow (.slice p' (n1 + k) cp') (n1 + k) (ys x ++ xs) :: N' x) w2 -> Hid (Calls Tryz.prog 303 #[ptr g] w2 fun en w' => en = .returned (.bool (decide (n1 + k = 0))) /\ w2 = w') := fun x p' cp' w2 h => by
  refine hid ?_
  rcases Nat.eq_zero_or_pos (n1 + k) with e | e
  ·rw [e] at h ⊢; exact zVk h
  ·obtain ⟨z, hz⟩ : ∃ z, n1 + k = z + 1 := ⟨n1 + k - 1, by omega⟩
   rw [hz] at h ⊢
   exact zW3 h
 clear hi0 hz0 hz1 hz2 h hx hx1 hK HC q1 q2 hn1 hk
 try unfold mv at *
 try unfold clo at *
 unfold ptr at *
 generalize decide (n1 + k = 0) = D at *
 generalize hkk : k + 1 = kk at *
 rcases hcap with hcap | hcap
 ·clear hkk
  go_enter Tryz.func302, Tryz.ntmps302
  go_wp2_with fail
  refine HE.out.mono ?_
  rintro e w1 ⟨rfl, rfl⟩
  clear HE
  go_wp2_with fail
  try simp only [Result.andThen, Hk.out, Array.empty_append, Array.append_empty]
  refine (Hc _ HO.out).out.mono ?_
  rintro e w2 ⟨x, rfl, hO⟩
  clear c0 c1 c2 c3 c4 c5 c6 c7 c8 c9 c10 c11 c12 c13 c14 c15 c16 c17 c18 cf x0 HO Hc
  have Hnw := HA x w2 hO
  obtain ⟨c0, c1, c2, c3, c4, c5, c6, c7, c8, c9, c10, c11, c12, c13, c14, c15, c16, c17, c18, cf⟩ := HG x w2 hO
  have HR := hid hO
  clear hO HA HG
  go_wp2_with (first | (at_builtin; refine zZf rfl (.tmp 21) (.tmp 26) 160 rfl 253 i0 _ Tryz.underlying160 Hi0.out Hz0.out Hz1.out Hz2.out rfl (by decide) rfl HR.out ⟨b, 1, none⟩ k (cap - 1) xs rfl Hx.out Hnw.out Hx1.out B1.out B2.out ?_; intro v' w8 hR hgr hnn; obtain ⟨p', cp', rfl⟩ := zZe hR; have HF := HB x _ _ hR; clear c0 c1 c2 c3 c4 c5 c6 c7 c8 c9 c10 c11 c12 c13 c14 c15 c16 c17 c18 cf; obtain ⟨c0, c1, c2, c3, c4, c5, c6, c7, c8, c9, c10, c11, c12, c13, c14, c15, c16, c17, c18, cf⟩ := HD x _ _ hR; clear hgr hnn HR Hnw hR HB HD Hi0 Hz0 Hz1 Hz2 B1 B2 Hx Hx1) | (at_builtin; refine zZf rfl (.tmp 21) (.tmp 26) 160 rfl 253 i0 _ Tryz.underlying160 Hi0.out Hz0.out Hz1.out Hz2.out rfl (by decide) rfl HR.out ⟨b, 0, none⟩ k (cap - 1) xs rfl Hx.out (HX0.out hcap w2) Hx1.out B1.out B2.out ?_; intro v' w8 hR hgr hnn; obtain ⟨p', cp', rfl⟩ := zZe hR; have HF := HB x _ _ hR; clear c0 c1 c2 c3 c4 c5 c6 c7 c8 c9 c10 c11 c12 c13 c14 c15 c16 c17 c18 cf; obtain ⟨c0, c1, c2, c3, c4, c5, c6, c7, c8, c9, c10, c11, c12, c13, c14, c15, c16, c17, c18, cf⟩ := HD x _ _ hR; clear hgr hnn HR Hnw hR HB HD Hi0 Hz0 Hz1 Hz2 B1 B2 Hx Hx1))
  refine (HEE _ _ _ _ HF.out).out.mono ?_
  rintro e w9 ⟨rfl, rfl⟩
  clear c0 c1 c2 c3 c4 c5 c6 c7 c8 c9 c10 c11 c12 c13 c14 c15 c16 c17 c18 cf HEE
  go_wp2_with fail
  go_ret
  exact ⟨rfl, x, _, HF.out⟩
 ·obtain rfl : cap = 1 := HC1.out hcap
  clear hkk
  go_enter Tryz.func302, Tryz.ntmps302
  go_wp2_with fail
  refine HE.out.mono ?_
  rintro e w1 ⟨rfl, rfl⟩
  clear HE
  go_wp2_with fail
  try simp only [Result.andThen, Hk.out, Array.empty_append, Array.append_empty]
  refine (Hc _ HO.out).out.mono ?_
  rintro e w2 ⟨x, rfl, hO⟩
  clear c0 c1 c2 c3 c4 c5 c6 c7 c8 c9 c10 c11 c12 c13 c14 c15 c16 c17 c18 cf x0 HO Hc
  have Hnw := HA x w2 hO
  obtain ⟨c0, c1, c2, c3, c4, c5, c6, c7, c8, c9, c10, c11, c12, c13, c14, c15, c16, c17, c18, cf⟩ := HG x w2 hO
  have HR := hid hO
  clear hO HA HG
  go_wp2_with (first | (at_builtin; refine zZf rfl (.tmp 21) (.tmp 26) 160 rfl 253 i0 _ Tryz.underlying160 Hi0.out Hz0.out Hz1.out Hz2.out rfl (by decide) rfl HR.out ⟨b, 1, none⟩ k (1 - 1) xs rfl Hx.out Hnw.out Hx1.out B1.out B2.out ?_; intro v' w8 hR hgr hnn; obtain ⟨p', cp', rfl⟩ := zZe hR; have HF := HB x _ _ hR; clear c0 c1 c2 c3 c4 c5 c6 c7 c8 c9 c10 c11 c12 c13 c14 c15 c16 c17 c18 cf; obtain ⟨c0, c1, c2, c3, c4, c5, c6, c7, c8, c9, c10, c11, c12, c13, c14, c15, c16, c17, c18, cf⟩ := HD x _ _ hR; clear hgr hnn HR Hnw hR HB HD Hi0 Hz0 Hz1 Hz2 B1 B2 Hx Hx1) | (at_builtin; refine zZf rfl (.tmp 21) (.tmp 26) 160 rfl 253 i0 _ Tryz.underlying160 Hi0.out Hz0.out Hz1.out Hz2.out rfl (by decide) rfl HR.out ⟨b, 0, none⟩ k (1 - 1) xs rfl Hx.out (HX0.out hcap w2) Hx1.out B1.out B2.out ?_; intro v' w8 hR hgr hnn; obtain ⟨p', cp', rfl⟩ := zZe hR; have HF := HB x _ _ hR; clear c0 c1 c2 c3 c4 c5 c6 c7 c8 c9 c10 c11 c12 c13 c14 c15 c16 c17 c18 cf; obtain ⟨c0, c1, c2, c3, c4, c5, c6, c7, c8, c9, c10, c11, c12, c13, c14, c15, c16, c17, c18, cf⟩ := HD x _ _ hR; clear hgr hnn HR Hnw hR HB HD Hi0 Hz0 Hz1 Hz2 B1 B2 Hx Hx1))
  refine (HEE _ _ _ _ HF.out).out.mono ?_
  rintro e w9 ⟨rfl, rfl⟩
  clear c0 c1 c2 c3 c4 c5 c6 c7 c8 c9 c10 c11 c12 c13 c14 c15 c16 c17 c18 cf HEE
  go_wp2_with fail
  go_ret
  exact ⟨rfl, x, _, HF.out⟩
end
end
end Go.Proofs.YtdglnpfnjinbkaaGreat
