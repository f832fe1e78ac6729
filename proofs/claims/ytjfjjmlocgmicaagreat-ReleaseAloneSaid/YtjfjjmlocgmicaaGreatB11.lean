/- Texts of elder layers, one behind the other: AddFns, PackRef, AddCn, AddLaw, AddLaid, AddPlay, AddHead, AddFacts, AdmitMath. -/
import Derived.Test.YtjfjjmlocgmicaaGreatB10
import Derived.BigQuiet
import Derived.Deep.RegionHeld3
section
namespace Go.Proofs.YtjfjjmlocgmicaaGreat
open Go.ChangeShapes Go.WideShapes Go.ChangeAt Go.RowKit Go.Shelf
set_option linter.unusedVariables false
set_option maxRecDepth 100000
variable {w0 w w' : World} {F0 : Nat → Prop} {L : List Asn} {T : TypeId} {m : Nat} {ws : List Int} {lg : List Acc}
def s0A (t : Int) : AS := ⟨0, bg t, 0, 0, 0, 0⟩
theorem addNew_any (p : AP) (t : Int) (t0 : 0 ≤ t) (t1 : t ≤ 1000) (h : Own w0 F0 L w) :
    Calls Tryz.prog 158 #[.int .i64 p.b, .int .i64 p.S, .int .i64 p.g, .int .i64 p.d, .int .i64 t] w fun e w' =>
      ∃ g, e = .returned (.pointer (some ⟨g, 0, none⟩)) ∧ Own w0 F0 (mchA g (stV p (s0A t)) :: L) w' := by
  have HB := fun w => Lib.hid (Begin_any t t0 t1 w)
  go_enter Tryz.func158, Tryz.ntmps158
  go_wp2_with fail
  refine (HB _).out.mono ?_
  rintro e w1 ⟨rfl, rfl⟩
  have H2 := Lib.hid ((h.new (aO p.b p.S p.g p.d (bg t) 0 0 0 0)))
  go_wp2_with fail
  go_ret
  refine ⟨_, rfl, ?_⟩
  have H3 := H2.out.drop.new (.cells #[stV p (s0A t)] 188)
  rw [World.size_alloc] at H3
  exact H3
theorem sum_wrap (a b : Int) : wrap64 (wrap64 a + b) = wrap64 (a + b) := by unfold wrap64; omega
theorem wrap64_id (a : Int) (h : I64 a) : wrap64 a = a := by unfold I64 at h; unfold wrap64; omega
set_option maxHeartbeats 400000 in
theorem addSum_b (p : AP) (S : Nat) (hS : p.S = S) (hS0 : 1 ≤ S) (hS1 : S ≤ 8) (hb : p.b ≤ 1000) (hl : p.b + 4 + S ≤ ws.length) (hn : ws.length ≤ 1000000) (hwf : ∀ k, I64 (ws.getD k 0)) (h : Own w0 F0 (memA T m ws lg :: L) w) :
    Calls Tryz.prog 26 #[.pointer (some ⟨m, 0, none⟩), .int .i64 p.b, .int .i64 S] w fun e w' => e = .returned (.int .i64 (wrap64 (sumZ p ws))) ∧ Below w.heap.size w w' := by
  have HW := Lib.hid (Words_b hn h)
  have HV := fun (y : Int) (hy : I64 y) w => Lib.hid (Value_any y hy.1 hy.2 w)
  have B0 : (0 : Int) ≤ p.b := by omega
  have B1 : (p.b : Int) < ws.length := by omega
  have B2 : (p.b : Int) + 4 < ws.length := by omega
  have B3 : (p.b : Int) + 4 + S ≤ ws.length := by omega
  have B4 : (ws.length : Int) ≤ 1000000 := by omega
  obtain ⟨R, hR⟩ : ∃ R, R = wrap64 (sumZ p ws) := ⟨_, rfl⟩
  rw [← hR]
  have HR := Lib.hid hR
  have Hwf := Lib.hid hwf
  clear h hR hwf
  go_enter Tryz.func26, Tryz.ntmps26
  go_wp2_with fail
  refine HW.out.mono ?_
  rintro e w1 ⟨v, rfl, hO⟩
  have hI := hO.intsAt.at (by omega)
  have HO := Lib.hid hO.toBelow
  obtain ⟨a0, cap0, cur, hv0, hnc, _⟩ := hO.rowBlk (by omega)
  obtain ⟨a, off, cap, rfl, hc⟩ := hI
  injection hv0 with hv0 _ hv1
  injection hv0 with hv0
  injection hv0 with hv2 hv3
  subst hv1 hv2 hv3
  simp only [Nat.zero_add] at hc
  have hcap : ws.length ≤ cap := hnc
  have d1 : decide ((p.b : Int) < 0) = false := by simp
  have d2 : decide (ws.length ≤ p.b) = false := by simp; omega
  have c0 := hc p.b (by omega)
  have Hc := Lib.hid hc
  clear hc hO HW hnc
  have H0 := Lib.hid (show wrap64 (ws.getD p.b 0 + strN p.b ws 0) = ws.getD p.b 0 from by rw [strN, Int.add_zero]; exact wrap64_id _ (Hwf.out _))
  generalize hy0 : ws.getD p.b 0 = y0 at c0 H0
  have Hy0 := Lib.hid hy0
  clear hy0
  go_wp2_with fail
  go_loopw [8, 9, 10, 33] (fun v8 v9 v10 v33 wr => ∃ k : Nat, k ≤ S ∧ v8 = .int .i64 (wrap64 (ws.getD p.b 0 + strN p.b ws k)) ∧ v33 = .int .i64 k ∧ w1 = wr) (fun v8 v9 v10 v33 _ => S - (intOf v33).toNat)
  case atStart => exact ⟨0, Nat.zero_le _, by have h0 := H0.out; rw [strN, Int.add_zero] at h0; rw [strN, Int.add_zero, Hy0.out, h0], rfl, rfl⟩
  case round =>
    obtain ⟨k, hk, rfl, rfl, rfl⟩ := hrel
    clear H0 c0
    by_cases hlt : k < S
    · have K1 : k < ws.length - (p.b + 4) := by omega
      have c1 := Hc.out (p.b + 4 + k) (by omega)
      have HV1 := HV _ (Hwf.out (p.b + 4 + k))
      have Hs := Lib.hid (sum_wrap (ws.getD p.b 0 + strN p.b ws k) (pval (ws.getD (p.b + 4 + k) 0)))
      have Hn := Lib.hid (show ws.getD p.b 0 + strN p.b ws k + pval (ws.getD (p.b + 4 + k) 0) = ws.getD p.b 0 + strN p.b ws (k + 1) by rw [strN]; omega)
      have pb := pval_bd (ws.getD (p.b + 4 + k) 0)
      generalize ws.getD p.b 0 + strN p.b ws k = s0 at Hs Hn ⊢
      generalize ws.getD (p.b + 4 + k) 0 = y at c1 HV1 Hs Hn pb
      go_wp2_with fail
      refine (HV1 _).out.mono ?_
      rintro e w2 ⟨rfl, rfl⟩
      generalize pval y = py at Hs Hn pb
      go_wp2_with fail
      go_roundw
      case rel => exact ⟨k + 1, by omega, by rw [Hs.out, Hn.out], by go_num, trivial⟩
      case measure => simp [intOf]; omega
    · obtain rfl : k = S := by omega
      have hR : wrap64 (ws.getD p.b 0 + strN p.b ws k) = R := by rw [HR.out]; unfold sumZ; rw [hS]; rfl
      rw [hR]
      by_cases h2 : k < ws.length - (p.b + 4)
      · have c1 := Hc.out (p.b + 4 + k) (by omega)
        generalize ws.getD (p.b + 4 + k) 0 = y at c1
        go_wp2_with fail
        go_ret
        exact ⟨rfl, HO.out⟩
      · have h3 : ws.length - (p.b + 4) = k := by omega
        go_wp2_with fail
        go_ret
        exact ⟨rfl, HO.out⟩
end Go.Proofs.YtjfjjmlocgmicaaGreat
end
section
namespace Go.Proofs.YtjfjjmlocgmicaaGreat
open Go.ChangeShapes Go.WideShapes Go.ChangeAt Go.RowKit
set_option linter.unusedVariables false
theorem rVersion_any (a : Int) (ha : -9223372036854775808 ≤ a) (ha1 : a ≤ 9223372036854775807) (w : World) :
    Calls Tryz.prog 32 #[.int .i64 a] w fun e w' => e = .returned (.int .i64 (pver a)) ∧ w = w' := by
  have Hu := u64_bd a
  have H := Lib.hid (u64_eq a)
  go_enter Tryz.func32, Tryz.ntmps32
  go_wp2
  go_ret
  exact ⟨ret_int (by rw [H.out]; unfold pver; omega), rfl⟩
theorem rValue_any (a : Int) (ha : -9223372036854775808 ≤ a) (ha1 : a ≤ 9223372036854775807) (w : World) :
    Calls Tryz.prog 73 #[.int .i64 a] w fun e w' => e = .returned (.int .i64 (pval a)) ∧ w = w' := by
  have Hu := u64_bd a
  have H := Lib.hid (u64_eq a)
  by_cases h : 2147483648 ≤ IntKind.u64.wrap a % 4294967296
  · go_enter Tryz.func73, Tryz.ntmps73
    go_wp2
    go_ret
    exact ⟨ret_int (by rw [H.out]; rw [H.out] at h; unfold pval wrap32; omega), rfl⟩
  · have h' : IntKind.u64.wrap a % 4294967296 < 2147483648 := by omega
    clear h
    go_enter Tryz.func73, Tryz.ntmps73
    go_wp2
    go_ret
    exact ⟨ret_int (by rw [H.out]; rw [H.out] at h'; unfold pval wrap32; omega), rfl⟩
theorem rWord_yes (a b : Int) (h0 : 0 ≤ a) (h1 : a ≤ 4294967295) (h2 : -2147483648 ≤ b) (h3 : b ≤ 2147483647)  (w : World) :
    Calls Tryz.prog 58 #[.int .i64 a, .int .i64 b] w fun e w' => e = .returned (.tuple #[.int .i64 (sg (pmk a b)), .bool true]) ∧ w = w' := by
  have D1 : a < 4294967296 := by omega
  have D3 : b < 2147483648 := by omega
  have H := Lib.hid (or_pair a b h0 h1)
  go_enter Tryz.func58, Tryz.ntmps58
  go_wp2
  go_ret2
  exact ⟨by rw [H.out]; rfl, rfl⟩
theorem rNext_yes (a b : Int) (h2 : -2147483648 ≤ b) (h3 : b ≤ 2147483647) (ha : -9223372036854775808 ≤ a) (ha1 : a ≤ 9223372036854775807) (w : World) :
    Calls Tryz.prog 122 #[.int .i64 a, .int .i64 b] w fun e w' => e = .returned (.tuple #[.int .i64 (sg (pmk ((pver a + 1) % 4294967296) b)), .bool true]) ∧ w = w' := by
  have hv := pver_bd a
  by_cases hl : pver a = 4294967295
  · have H3 := Lib.hid (show (pver a + 1) % 4294967296 = 0 by omega)
    have F := beq_t (show pver a + 1 = 4294967296 by omega)
    clear hl
    go_enter Tryz.func122, Tryz.ntmps122
    go_wp2_with fail
    refine (rVersion_any _ (by omega) (by omega) _).mono ?_
    rintro e w' ⟨rfl, rfl⟩
    go_wp2_with fail
    refine (rWord_yes _ _ (by omega) (by omega) (by omega) (by omega) _).mono ?_
    rintro e w' ⟨rfl, rfl⟩
    go_wp2_with fail
    go_ret2
    exact ⟨by rw [H3.out]; rfl, rfl⟩
  · have H3 := Lib.hid (up_yes a hl)
    have F := beq_f (show pver a + 1 ≠ 4294967296 by omega)
    have hb : pver a + 1 ≤ 4294967295 := by omega
    clear hl
    go_enter Tryz.func122, Tryz.ntmps122
    go_wp2_with fail
    refine (rVersion_any _ (by omega) (by omega) _).mono ?_
    rintro e w' ⟨rfl, rfl⟩
    go_wp2_with fail
    refine (rWord_yes _ _ (by omega) (by omega) (by omega) (by omega) _).mono ?_
    rintro e w' ⟨rfl, rfl⟩
    go_wp2_with fail
    go_ret2
    exact ⟨by rw [H3.out]; rfl, rfl⟩
end Go.Proofs.YtjfjjmlocgmicaaGreat
end
section
namespace Go.Proofs.YtjfjjmlocgmicaaGreat
open Go.ChangeShapes Go.WideShapes Go.ChangeAt Go.RowKit Go.Shelf
set_option linter.unusedVariables false
set_option maxRecDepth 100000
variable {w0 w w' : World} {F0 : Nat → Prop} {L : List Asn} {T : TypeId} {m : Nat} {ws : List Int} {lg : List Acc}
structure Cn where
  bs : Int
  st : Int
  ga : Int
  gl : Int
  lv : Int
  ver : List Int
  val : List Int
structure Cn.Wf (c : Cn) : Prop where
  b0 : 0 ≤ c.bs
  b1 : c.bs ≤ 255
  s0 : 0 ≤ c.st
  s1 : c.st ≤ 255
  g0 : 0 ≤ c.ga
  g1 : c.ga ≤ 65535
  l0 : -2147483648 ≤ c.gl
  l1 : c.gl ≤ 2147483647
  v0 : 0 ≤ c.lv
  v1 : c.lv ≤ 255
  er : ∀ i, i < c.ver.length → 0 ≤ c.ver.getD i 0 ∧ c.ver.getD i 0 ≤ 4294967295
  al : ∀ i, i < c.val.length → -2147483648 ≤ c.val.getD i 0 ∧ c.val.getD i 0 ≤ 2147483647
def pw4 (x : Int) : Int := if x % 4 = 0 then 1 else if x % 4 = 1 then 2 else if x % 4 = 2 then 4 else 8
def Cn.p (c : Cn) (d : Int) : AP := ⟨(c.bs % 8).toNat, pw4 c.st, c.ga % 40 + 1, d⟩
def Cn.b (c : Cn) : Nat := (c.bs % 8).toNat
def Cn.s (c : Cn) : Nat := (pw4 c.st).toNat
def Cn.g (c : Cn) : Int := c.ga % 40 + 1
end Go.Proofs.YtjfjjmlocgmicaaGreat
end
section
namespace Go.Proofs.YtjfjjmlocgmicaaGreat
open Go.ChangeShapes Go.WideShapes Go.ChangeAt Go.RowKit Go.Shelf
set_option linter.unusedVariables false
set_option maxRecDepth 100000
variable {W w w' : World} {L : List Asn} {T : TypeId} {m : Nat} {ws : List Int} {lg : List Acc}
end Go.Proofs.YtjfjjmlocgmicaaGreat
end
section
namespace Go.Proofs.YtjfjjmlocgmicaaGreat
open Go.ChangeShapes Go.WideShapes Go.ChangeAt Go.RowKit Go.Shelf
set_option linter.unusedVariables false
set_option maxRecDepth 100000
variable {w0 w w' : World} {F0 : Nat → Prop} {L : List Asn} {ws : List Int}
end Go.Proofs.YtjfjjmlocgmicaaGreat
end
section
namespace Go.Proofs.YtjfjjmlocgmicaaGreat
open Go.ChangeShapes Go.WideShapes Go.ChangeAt Go.RowKit Go.Shelf
set_option linter.unusedVariables false
set_option maxRecDepth 100000
variable {w0 w w' : World} {F0 : Nat → Prop} {L : List Asn} {ws : List Int} {lg : List Acc} {p : AP}
def alI (p : AP) (x : Int) (ws : List Int) : Nat := (x % ws.getD (p.b + 3) 0).toNat
def alU (p : AP) (x : Int) (ws : List Int) : Int := pval (ws.getD (p.b + 4 + alI p x ws) 0) + p.d
def alIn (p : AP) (x : Int) (ws : List Int) : Prop := -p.g < alU p x ws ∧ alU p x ws < p.g
def alK (p : AP) (x : Int) (ws : List Int) : List Int := ws.set (p.b + 4 + alI p x ws) (nxt (ws.getD (p.b + 4 + alI p x ws) 0) (alU p x ws))
def alF (p : AP) (x : Int) (ws : List Int) : List Int :=
  (((ws.set (p.b + 1) (wrap64 (ws.getD (p.b + 1) 0 + 1))).set (p.b + 4 + alI p x ws) (nxt (ws.getD (p.b + 4 + alI p x ws) 0) 0)).set p.b (wrap64 (ws.getD p.b 0 + alU p x ws))).set (p.b + 2) (wrap64 (ws.getD (p.b + 2) 0 + 1))
def al1 (p : AP) (x : Int) (ws : List Int) (lg : List Acc) : List Acc := lg ++ [⟨1, (p.b : Int) + 3, ws.getD (p.b + 3) 0, 0, false⟩] ++ [⟨1, (p.b : Int) + 4 + alI p x ws, ws.getD (p.b + 4 + alI p x ws) 0, 0, false⟩]
def alS (p : AP) (x : Int) (ws : List Int) (k : Nat) : AS := ⟨k, x, ws.getD (p.b + 3) 0, alI p x ws, ws.getD (p.b + 4 + alI p x ws) 0, alU p x ws⟩
theorem alone_look (g : Nat) (f t : Nat) (x a b c : Int) (i : Nat) (k : Nat) (h : (if -p.g < alU p x ws ∧ alU p x ws < p.g then 2 else 3) = k) :
    playF (addM g p) [] (f + 2) t ⟨0, x, a, i, b, c⟩ ws lg = playF (addM g p) [] f (t + 2) (alS p x ws k) ws (al1 p x ws lg) := by
  subst h
  rw [playF_step (s1 := ⟨1, x, ws.getD (p.b + 3) 0, alI p x ws, b, c⟩) (ws1 := ws) (lg1 := lg ++ [⟨1, (p.b : Int) + 3, ws.getD (p.b + 3) 0, 0, false⟩]) rfl]
  rw [playF_step (s1 := alS p x ws (if -p.g < alU p x ws ∧ alU p x ws < p.g then 2 else 3)) (ws1 := ws) (lg1 := al1 p x ws lg) rfl]
theorem alone_keep (g : Nat) (f t : Nat) (x a b c : Int) (i : Nat) (h : alIn p x ws) :
    ∃ lg', playF (addM g p) [] (f + 3) t ⟨0, x, a, i, b, c⟩ ws lg = (t + 3, true, alS p x ws 9, alK p x ws, lg') ∧ lg'.length = lg.length + 3 := by
  refine ⟨al1 p x ws lg ++ [⟨3, (p.b : Int) + 4 + alI p x ws, ws.getD (p.b + 4 + alI p x ws) 0, nxt (ws.getD (p.b + 4 + alI p x ws) 0) (alU p x ws), true⟩], ?_, by simp [al1]⟩
  rw [show f + 3 = (f + 1) + 2 from rfl, alone_look g (f + 1) t x a b c i 2 (if_pos h)]
  rw [playF_end (s1 := alS p x ws 9) (ws1 := alK p x ws) (by simp only [addM]; exact if_pos rfl)]
  rfl
theorem alone_bring (g : Nat) (f t : Nat) (x a b c : Int) (i : Nat) (h : ¬ alIn p x ws) :
    ∃ lg', playF (addM g p) [] (f + 6) t ⟨0, x, a, i, b, c⟩ ws lg = (t + 6, true, alS p x ws 9, alF p x ws, lg') ∧ lg'.length = lg.length + 6 := by
  let W1 := ws.set (p.b + 1) (wrap64 (ws.getD (p.b + 1) 0 + 1))
  let W2 := W1.set (p.b + 4 + alI p x ws) (nxt (ws.getD (p.b + 4 + alI p x ws) 0) 0)
  let W3 := W2.set p.b (wrap64 (ws.getD p.b 0 + alU p x ws))
  let G1 := al1 p x ws lg ++ [⟨2, (p.b : Int) + 1, 1, wrap64 (ws.getD (p.b + 1) 0 + 1), false⟩]
  let G2 := G1 ++ [⟨3, (p.b : Int) + 4 + alI p x ws, ws.getD (p.b + 4 + alI p x ws) 0, nxt (ws.getD (p.b + 4 + alI p x ws) 0) 0, true⟩]
  let G3 := G2 ++ [⟨2, (p.b : Int), alU p x ws, wrap64 (ws.getD p.b 0 + alU p x ws), false⟩]
  have e1 : W1.getD (p.b + 4 + alI p x ws) 0 = ws.getD (p.b + 4 + alI p x ws) 0 := by simp only [W1]; rw [getD_set, if_neg (by omega)]
  have e2 : W2.getD p.b 0 = ws.getD p.b 0 := by simp only [W2, W1]; rw [getD_set, getD_set, if_neg (by omega), if_neg (by omega)]
  have e3 : W3.getD (p.b + 2) 0 = ws.getD (p.b + 2) 0 := by simp only [W3, W2, W1]; rw [getD_set, getD_set, getD_set, if_neg (by omega), if_neg (by omega), if_neg (by omega)]
  refine ⟨G3 ++ [⟨2, (p.b : Int) + 2, 1, wrap64 (ws.getD (p.b + 2) 0 + 1), false⟩], ?_, by simp [G3, G2, G1, al1]⟩
  rw [show f + 6 = (f + 4) + 2 from rfl, alone_look g (f + 4) t x a b c i 3 (if_neg h)]
  rw [playF_step (s1 := alS p x ws 4) (ws1 := W1) (lg1 := G1) rfl]
  rw [playF_step (s1 := alS p x ws 5) (ws1 := W2) (lg1 := G2) (by simp only [addM]; exact if_pos e1)]
  rw [playF_step (s1 := alS p x ws 6) (ws1 := W3) (lg1 := G3) (by simp only [addM]; show (alS p x ws 6, W2.set p.b (wrap64 (W2.getD p.b 0 + alU p x ws)), G2 ++ [⟨2, (p.b : Int), alU p x ws, wrap64 (W2.getD p.b 0 + alU p x ws), false⟩], false) = _; rw [e2])]
  rw [playF_end (s1 := alS p x ws 9) (ws1 := alF p x ws) (by
    simp only [addM]
    show (alS p x ws 9, W3.set (p.b + 2) (wrap64 (W3.getD (p.b + 2) 0 + 1)), G3 ++ [⟨2, (p.b : Int) + 2, 1, wrap64 (W3.getD (p.b + 2) 0 + 1), false⟩], true) = _
    rw [e3]; rfl)]
end Go.Proofs.YtjfjjmlocgmicaaGreat
end
section
namespace Go.Proofs.YtjfjjmlocgmicaaGreat
open Go.ChangeShapes Go.WideShapes Go.ChangeAt Go.RowKit Go.Shelf
set_option linter.unusedVariables false
set_option maxRecDepth 100000
variable {w0 w w' : World} {F0 : Nat → Prop} {L : List Asn} {ws : List Int} {lg : List Acc} {p : AP}
def hw0 : List Int := [0, 0, 0, 1, 0, 0]
def hw1 : List Int := [0, 0, 0, 1, 4294967299, 0]
def hw2 : List Int := [5, 1, 1, 1, 8589934592, 0]
end Go.Proofs.YtjfjjmlocgmicaaGreat
end
section
namespace Go.Proofs.YtjfjjmlocgmicaaGreat
open Go.RowKit
set_option linter.unusedVariables false
theorem alI_lt {p : AP} {ws : List Int} (hw : WOk p ws) (x : Int) : (alI p x ws : Int) < p.S := by
  have hl := hw.live.bd
  have hl2 := hw.live2
  have m0 := Int.emod_nonneg x (b := ws.getD (p.b + 3) 0) (by omega)
  have m1 := Int.emod_lt_of_pos x (b := ws.getD (p.b + 3) 0) (by omega)
  unfold alI; omega
structure Alone (p : AP) (ws ws' : List Int) (n : Nat) : Prop where
  n36 : n = 3 ∨ n = 6
  ok : WOk p ws'
  len : ws'.length = ws.length
  sum : ∃ k : Int, sumZ p ws' = sumZ p ws + p.d + k * 18446744073709551616
  out : ∀ i, i < p.b ∨ (p.b : Int) + 4 + p.S ≤ i → ws'.getD i 0 = ws.getD i 0
  begun : ws'.getD (p.b + 1) 0 = if n = 6 then wrap64 (ws.getD (p.b + 1) 0 + 1) else ws.getD (p.b + 1) 0
  done : ws'.getD (p.b + 2) 0 = if n = 6 then wrap64 (ws.getD (p.b + 2) 0 + 1) else ws.getD (p.b + 2) 0
  live : ws'.getD (p.b + 3) 0 = ws.getD (p.b + 3) 0
  glob : n = 3 → ws'.getD p.b 0 = ws.getD p.b 0
  zero : p.d = 0 → n = 3
  globn : n = 6 → ∃ u : Int, -2097152 ≤ u ∧ u ≤ 2097152 ∧ ws'.getD p.b 0 = wrap64 (ws.getD p.b 0 + u)
theorem alone_any {p : AP} {ws : List Int} (hp : p.Ok) (hw : WOk p ws) (g : Nat) (x : Int) (hx0 : 1 ≤ x) (hx1 : x ≤ 4294967295) (f : Nat) (hf : 6 ≤ f) (lg : List Acc) :
    ∃ (n : Nat) (s : AS) (ws' : List Int) (lg' : List Acc), playF (addM g p) [] f 0 ⟨0, x, 0, 0, 0, 0⟩ ws lg = (n, true, s, ws', lg') ∧ s.at_ = 9 ∧ lg'.length = lg.length + n ∧ Alone p ws ws' n := by
  have hi := alI_lt hw x
  have hS := hp.S.bd
  have hlen := hw.len
  have hgt := hw.gate _ hi
  have g0 := hp.g0
  have g1 := hp.g1
  have d0 := hp.d0
  have d1 := hp.d1
  by_cases h : alIn p x ws
  · obtain ⟨lg', e, hl⟩ := alone_keep (p := p) (ws := ws) (lg := lg) g (f - 3) 0 x 0 0 0 0 h
    rw [show f - 3 + 3 = f by omega] at e
    refine ⟨3, _, _, lg', e, rfl, hl, Or.inl rfl, ?_, ?_, ⟨0, ?_⟩, fun i hi => ?_, ?_, ?_, ?_, fun _ => ?_, fun _ => rfl, fun h => by simp at h⟩
    · exact hw.setStripe hp _ _ _ h.1 h.2
    · simp [alK]
    · unfold alIn at h
      unfold alK
      rw [sumZ_stripe hw _ _ hi, pval_nxt _ _ (by omega) (by omega)]
      unfold alU; omega
    · unfold alK; rw [getD_set, if_neg (by omega)]
    · unfold alK; rw [getD_set, if_neg (by omega)]; simp
    · unfold alK; rw [getD_set, if_neg (by omega)]; simp
    · unfold alK; rw [getD_set, if_neg (by omega)]
    · unfold alK; rw [getD_set, if_neg (by omega)]
  · obtain ⟨lg', e, hl⟩ := alone_bring (p := p) (ws := ws) (lg := lg) g (f - 6) 0 x 0 0 0 0 h
    rw [show f - 6 + 6 = f by omega] at e
    have ok1 := hw.setLow (p.b + 1) (wrap64 (ws.getD (p.b + 1) 0 + 1)) (wrap64_I _) (by omega)
    have ok2 := ok1.setStripe hp (alI p x ws) (ws.getD (p.b + 4 + alI p x ws) 0) 0 (by omega) (by omega)
    have ok3 := ok2.setLow p.b (wrap64 (ws.getD p.b 0 + alU p x ws)) (wrap64_I _) (by omega)
    have ok4 := ok3.setLow (p.b + 2) (wrap64 (ws.getD (p.b + 2) 0 + 1)) (wrap64_I _) (by omega)
    refine ⟨6, _, _, lg', e, rfl, hl, Or.inr rfl, ok4, ?_, ?_, fun i hi => ?_, ?_, ?_, ?_, fun h => by simp at h, fun h0 => absurd (show alIn p x ws from by unfold alIn alU; rw [h0]; omega) h, fun _ => ⟨alU p x ws, ?_, ?_, ?_⟩⟩
    · simp [alF]
    · obtain ⟨k, hk⟩ := wrap64_ex (ws.getD p.b 0 + alU p x ws)
      refine ⟨k, ?_⟩
      unfold alF
      rw [sumZ_low _ _ (by omega) (by omega), sumZ_glob _ (by simp; omega), getD_set, if_neg (by omega), getD_set, if_neg (by omega), sumZ_stripe ok1 _ _ hi, getD_set, if_neg (by omega), sumZ_low _ _ (by omega) (by omega), pval_nxt _ _ (by omega) (by omega), hk]
      unfold alU; omega
    · unfold alF
      rw [getD_set, if_neg (by omega), getD_set, if_neg (by omega), getD_set, if_neg (by omega), getD_set, if_neg (by omega)]
    · unfold alF
      rw [getD_set, if_neg (by omega), getD_set, if_neg (by omega), getD_set, if_neg (by omega), getD_set, if_pos ⟨rfl, by omega⟩, if_pos rfl]
    · unfold alF
      rw [getD_set, if_pos ⟨rfl, by simp; omega⟩, if_pos rfl]
    · unfold alF
      rw [getD_set, if_neg (by omega), getD_set, if_neg (by omega), getD_set, if_neg (by omega), getD_set, if_neg (by omega)]
    · unfold alU; omega
    · unfold alU; omega
    · unfold alF
      rw [getD_set, if_neg (by omega), getD_set, if_pos ⟨rfl, by simp; omega⟩]
theorem WOk.of {p q : AP} {ws : List Int} (h : WOk p ws) (hb : p.b = q.b) (hS : p.S = q.S) (hg : p.g = q.g) : WOk q ws :=
  ⟨by rw [← hb, ← hS]; exact h.len, h.most, h.wf, by rw [← hb]; exact h.live, by rw [← hb, ← hS]; exact h.live2, fun k hk => by rw [← hb, ← hg]; exact h.gate k (by rw [hS]; exact hk)⟩
theorem sumZ_of {p q : AP} (ws : List Int) (hb : p.b = q.b) (hS : p.S = q.S) : sumZ p ws = sumZ q ws := by unfold sumZ; rw [hb, hS]
theorem step_flag {p : AP} {s : AS} {ws : List Int} {lg : List Acc} (hs : SOk p s) : (stepA p s ws lg).2.2.2 = ((stepA p s ws lg).1.at_ == 9) := by
  have := step_end (ws := ws) (lg := lg) hs
  by_cases h : (stepA p s ws lg).1.at_ = 9
  · rw [this.2 h]; simp [h]
  · have h2 : (stepA p s ws lg).2.2.2 = false := by
      cases hb : (stepA p s ws lg).2.2.2
      · rfl
      · exact absurd (this.1 hb) h
    rw [h2]; simp [h]
end Go.Proofs.YtjfjjmlocgmicaaGreat
end
section
namespace Go.Proofs.YtjfjjmlocgmicaaGreat
open Go.RowKit
set_option linter.unusedVariables false
structure DP where
  c : Cf
  v : Nat
  n : Int
  t : Nat
structure DS where
  ph : Nat
  at_ : Nat
  cs : CS
  ps : PS
  as_ : AS
  lv : Int
  er : Int
  an : Int
  nd : Int
def avN (c : Cf) (u : Nat) : Nat := limN c u + 1
def leN (c : Cf) (u i : Nat) : Nat := limN c u + 2 + i
def ctN (c : Cf) (u : Nat) : Nat := limN c u + 2 + c.st.toNat
def tkN (c : Cf) (k : Nat) : Nat := limN c c.ps.length + 2 * k
def DP.len (p : DP) : Nat := (path p.c.ps p.v).length
def DP.nd (p : DP) (i : Nat) : Nat := ((path p.c.ps p.v).getD i (-1)).toNat
def DP.S (p : DP) : Nat := p.c.st.toNat
def DP.cp (p : DP) : CP := ⟨limN p.c p.c.ps.length, p.c.ti.toNat, p.t⟩
def DP.pp (p : DP) (i : Nat) : PP := ⟨avN p.c (p.nd i), leN p.c (p.nd i) (p.t % p.S), p.n, p.c.le⟩
def ctP (c : Cf) (u : Nat) (d : Int) : AP := ⟨ctN c u, c.st, c.ga, d⟩
def DP.ap (p : DP) (i : Nat) : AP := ctP p.c (p.nd i) p.n
def s0D (p : DP) : DS := ⟨0, 0, s0C, s0P, s0A p.t, 0, 0, 0, 0⟩
def afterC (p : DP) (s : DS) (k : CS) : DS :=
  if k.fin = true then (if k.ok = true then ⟨1, 0, k, s0P, s.as_, s.lv, 0, 0, 0⟩ else ⟨6, 0, k, s.ps, s.as_, s.lv, 3, 0, 0⟩) else ⟨0, 0, k, s.ps, s.as_, s.lv, 0, 0, 0⟩
def afterP (p : DP) (s : DS) (k : PS) : DS :=
  if k.at_ = 9 then (if k.r = true then ⟨2, s.at_, s.cs, k, s.as_, s.lv, 4, 0, p.nd s.at_⟩ else if s.at_ + 1 = p.len then ⟨3, s.at_ + 1, s.cs, k, s.as_, s.lv, 0, 0, 0⟩ else ⟨1, s.at_ + 1, s.cs, s0P, s.as_, s.lv, 0, 0, 0⟩) else ⟨1, s.at_, s.cs, k, s.as_, s.lv, 0, 0, 0⟩
def afterA (p : DP) (s : DS) (k : AS) : DS :=
  if k.at_ = 9 then (if s.at_ + 1 < p.len then ⟨5, s.at_ + 1, s.cs, s.ps, s0A p.t, s.lv, 0, 0, 0⟩ else ⟨6, s.at_ + 1, s.cs, s.ps, k, s.lv, 0, hdV s.cs.n s.lv, 0⟩) else ⟨5, s.at_, s.cs, s.ps, k, s.lv, 0, 0, 0⟩
def stepD (p : DP) (s : DS) (ws : List Int) (lg : List Acc) : DS × List Int × List Acc × Bool :=
  match s.ph with
  | 0 => (afterC p s (stepC p.cp s.cs ws lg).1, (stepC p.cp s.cs ws lg).2.1, (stepC p.cp s.cs ws lg).2.2.1, decide ((afterC p s (stepC p.cp s.cs ws lg).1).ph = 6))
  | 1 => (afterP p s (stepP (p.pp s.at_) s.ps ws lg).1, (stepP (p.pp s.at_) s.ps ws lg).2.1, (stepP (p.pp s.at_) s.ps ws lg).2.2.1, false)
  | 2 => if s.at_ = 0 then (⟨6, 0, s.cs, s.ps, s.as_, s.lv, s.er, s.an, s.nd⟩, ws.set (tkN p.c s.cs.n) (tnW s.cs.put 0), lg ++ [⟨4, (tkN p.c s.cs.n : Nat), tnW s.cs.put 0, 0, false⟩], true)
      else (⟨2, s.at_ - 1, s.cs, s.ps, s.as_, s.lv, s.er, s.an, s.nd⟩, ws.set (avN p.c (p.nd (s.at_ - 1))) (wrap64 (ws.getD (avN p.c (p.nd (s.at_ - 1))) 0 + p.n)), lg ++ [⟨2, (avN p.c (p.nd (s.at_ - 1)) : Nat), p.n, wrap64 (ws.getD (avN p.c (p.nd (s.at_ - 1))) 0 + p.n), false⟩], false)
  | 3 => (⟨4, s.at_, s.cs, s.ps, s.as_, s.lv, 0, 0, 0⟩, ws.set (tkN p.c s.cs.n + 1) (bdV p.v p.n), lg ++ [⟨4, (tkN p.c s.cs.n + 1 : Nat), bdV p.v p.n, 0, false⟩], false)
  | 4 => (⟨5, 0, s.cs, s.ps, s0A p.t, tnW s.cs.put 2, 0, 0, 0⟩, ws.set (tkN p.c s.cs.n) (tnW s.cs.put 2), lg ++ [⟨4, (tkN p.c s.cs.n : Nat), tnW s.cs.put 2, 0, false⟩], false)
  | 5 => (afterA p s (stepA (p.ap s.at_) s.as_ ws lg).1, (stepA (p.ap s.at_) s.as_ ws lg).2.1, (stepA (p.ap s.at_) s.as_ ws lg).2.2.1, decide ((afterA p s (stepA (p.ap s.at_) s.as_ ws lg).1).ph = 6))
  | _ => (s, ws, lg, true)
structure DP.Ok (p : DP) : Prop where
  rt : p.c.Rt
  v : p.v < p.c.ps.length
  n0 : 1 ≤ p.n
  n1 : p.n ≤ 1048576
  t : p.t ≤ 1000
theorem limN_succ (c : Cf) (u : Nat) : limN c (u + 1) = limN c u + (6 + 2 * c.st.toNat) := by unfold limN; rw [Nat.succ_mul]
theorem limN_lt (c : Cf) {a b : Nat} (h : a < b) : limN c a + (6 + 2 * c.st.toNat) ≤ limN c b := by
  have := limN_mono (c := c) (show a + 1 ≤ b by omega)
  rw [limN_succ] at this; exact this
theorem st_nat {c : Cf} (hr : c.Rt) : c.st = (c.st.toNat : Int) ∧ 1 ≤ c.st.toNat ∧ c.st.toNat ≤ 8 := by
  have := hr.st
  unfold Pow at this; omega
theorem ti_nat {c : Cf} (hr : c.Rt) : c.ti = (c.ti.toNat : Int) ∧ 1 ≤ c.ti.toNat ∧ c.ti.toNat ≤ 16 := by
  have := hr.ti
  unfold Bd at this; omega
theorem limN_bd {c : Cf} (hr : c.Rt) : limN c c.ps.length ≤ 264 := by
  have h1 := (st_nat hr).2.2
  have h2 := hr.n1
  calc limN c c.ps.length ≤ c.ps.length * 22 := Nat.mul_le_mul_left _ (by omega)
    _ ≤ 264 := by omega
theorem sizeN_bd {c : Cf} (hr : c.Rt) : sizeN c ≤ 296 := by
  have h1 := limN_bd hr
  have h2 := (ti_nat hr).2.2
  unfold sizeN; omega
variable {p : DP} {s : DS} {ws : List Int} {lg : List Acc} {B : Int}
theorem DP.nd_lt (hp : p.Ok) (i : Nat) (hi : i < p.len) : p.nd i < p.c.ps.length := by
  have h := path_next hp.rt.tr p.v (by omega) (by have := hp.v; omega) i hi
  have := hp.v
  unfold DP.nd; omega
theorem DP.nd_int (hp : p.Ok) (i : Nat) (hi : i < p.len) : (path p.c.ps p.v).getD i (-1) = (p.nd i : Int) := by
  have h := path_next hp.rt.tr p.v (by omega) (by have := hp.v; omega) i hi
  unfold DP.nd; omega
theorem DP.nd_down (hp : p.Ok) (i : Nat) (hi : i + 1 < p.len) : p.nd (i + 1) < p.nd i := by
  have h := path_next hp.rt.tr p.v (by omega) (by have := hp.v; omega) i (show i < p.len by omega)
  have h2 := path_next hp.rt.tr p.v (by omega) (by have := hp.v; omega) (i + 1) hi
  have e1 := DP.nd_int hp i (by omega)
  have e2 := DP.nd_int hp (i + 1) hi
  rw [e1] at h
  rw [e2] at h
  have hv := DP.nd_lt hp i (by omega)
  have hf := hp.rt.tr.fall (p.nd i) (by omega) (by omega)
  omega
theorem DP.nd_lt_of (hp : p.Ok) {i j : Nat} (hij : i < j) (hj : j < p.len) : p.nd j < p.nd i := by
  induction j with
  | zero => omega
  | succ j ih =>
    have h1 := DP.nd_down hp j hj
    by_cases e : i = j
    · subst e; exact h1
    · have := ih (by omega) (by omega); omega
theorem DP.nd_inj (hp : p.Ok) {i j : Nat} (hi : i < p.len) (hj : j < p.len) (h : p.nd i = p.nd j) : i = j := by
  rcases Nat.lt_trichotomy i j with e | e | e
  · have := DP.nd_lt_of hp e hj; omega
  · exact e
  · have := DP.nd_lt_of hp e hi; omega
theorem DP.len_bd (hp : p.Ok) : 1 ≤ p.len ∧ p.len ≤ 12 := by
  have h := path_pos hp.rt.tr p.v (by omega) (by have := hp.v; omega)
  have := path_len12 hp.rt.tr p.v
  unfold DP.len; omega
theorem DP.on_iff (hp : p.Ok) (u : Nat) : On p.c.ps p.v u ↔ ∃ i, i < p.len ∧ p.nd i = u := by
  rw [on_get]
  constructor
  · rintro ⟨k, hk, e⟩
    refine ⟨k, hk, ?_⟩
    unfold DP.nd; rw [e]; simp
  · rintro ⟨k, hk, e⟩
    exact ⟨k, hk, by rw [DP.nd_int hp k hk, e]⟩
structure NodeOk (c : Cf) (B : Int) (u : Nat) (ws : List Int) : Prop where
  av : 0 ≤ ws.getD (avN c u) 0 ∧ ws.getD (avN c u) 0 ≤ B
  le : ∀ i, i < c.st.toNat → 0 ≤ ws.getD (leN c u i) 0 ∧ ws.getD (leN c u i) 0 ≤ c.le
  live : Pow8 (ws.getD (ctN c u + 3) 0) ∧ ws.getD (ctN c u + 3) 0 ≤ c.st
  gate : ∀ k : Nat, k < c.st.toNat → -c.ga < pval (ws.getD (ctN c u + 4 + k) 0) ∧ pval (ws.getD (ctN c u + 4 + k) 0) < c.ga
structure DW (c : Cf) (B : Int) (ws : List Int) : Prop where
  len : ws.length = sizeN c
  wf : ∀ k, I64 (ws.getD k 0)
  node : ∀ u, u < c.ps.length → NodeOk c B u ws
theorem NodeOk.more {c : Cf} {B B' : Int} {u : Nat} (h : NodeOk c B u ws) (hB : B ≤ B') : NodeOk c B' u ws := ⟨⟨h.av.1, by have := h.av.2; omega⟩, h.le, h.live, h.gate⟩
theorem DW.more {c : Cf} {B B' : Int} (h : DW c B ws) (hB : B ≤ B') : DW c B' ws := ⟨h.len, h.wf, fun u hu => (h.node u hu).more hB⟩
theorem NodeOk.same {c : Cf} {B : Int} {u : Nat} {ws' : List Int} (h : NodeOk c B u ws) (e : ∀ k, limN c u ≤ k → k < limN c (u + 1) → ws'.getD k 0 = ws.getD k 0) : NodeOk c B u ws' := by
  have hs := limN_succ c u
  refine ⟨?_, fun i hi => ?_, ?_, fun k hk => ?_⟩
  · rw [e _ (by unfold avN; omega) (by unfold avN; omega)]; exact h.av
  · rw [e _ (by unfold leN; omega) (by unfold leN; omega)]; exact h.le i hi
  · rw [e _ (by unfold ctN; omega) (by unfold ctN; omega)]; exact h.live
  · rw [e _ (by unfold ctN; omega) (by unfold ctN; omega)]; exact h.gate k hk
theorem DW.change {c : Cf} {B B' : Int} {ws' : List Int} (h : DW c B ws) (hB : B ≤ B') (u0 : Nat) (hlen : ws'.length = ws.length) (hwf : ∀ k, I64 (ws'.getD k 0)) (hout : ∀ k, k < limN c u0 ∨ limN c (u0 + 1) ≤ k → ws'.getD k 0 = ws.getD k 0) (hn : NodeOk c B' u0 ws') : DW c B' ws' := by
  refine ⟨by rw [hlen]; exact h.len, hwf, fun u hu => ?_⟩
  by_cases e : u = u0
  · rw [e]; exact hn
  · refine ((h.node u hu).more hB).same (fun k h1 h2 => hout k ?_)
    rcases Nat.lt_or_ge u u0 with hlt | hge
    · have := limN_mono (c := c) (show u + 1 ≤ u0 by omega); omega
    · have := limN_mono (c := c) (show u0 + 1 ≤ u by omega); omega
theorem DW.ticket {c : Cf} {B : Int} (h : DW c B ws) (i : Nat) (y : Int) (hi : limN c c.ps.length ≤ i) (hy : I64 y) : DW c B (ws.set i y) := by
  refine ⟨by rw [List.length_set]; exact h.len, set_wf h.wf _ _ hy, fun u hu => (h.node u hu).same (fun k h1 h2 => ?_)⟩
  have := limN_mono (c := c) (show u + 1 ≤ c.ps.length by omega)
  rw [getD_set, if_neg (by omega)]
theorem DW.cw {c : Cf} (hr : c.Rt) (h : DW c B ws) (t : Nat) : CW ⟨limN c c.ps.length, c.ti.toNat, t⟩ ws := by
  have := sizeN_bd hr
  have hl := h.len
  exact ⟨by rw [hl]; unfold sizeN; exact Nat.le_refl _, by omega, h.wf⟩
theorem DW.pw {c : Cf} (hr : c.Rt) (h : DW c B ws) {u : Nat} (hu : u < c.ps.length) {i : Nat} (hi : i < c.st.toNat) (n : Int) : PW ⟨avN c u, leN c u i, n, c.le⟩ B ws := by
  have h1 := sizeN_bd hr
  have hl := h.len
  have h2 := limN_lt c hu
  have hn := h.node u hu
  have h3 : limN c c.ps.length ≤ sizeN c := by unfold sizeN; omega
  exact ⟨by simp only [avN]; omega, by simp only [leN]; omega, by omega, h.wf, hn.av.1, hn.av.2, (hn.le i hi).1, (hn.le i hi).2⟩
theorem DW.wok {c : Cf} (hr : c.Rt) (h : DW c B ws) {u : Nat} (hu : u < c.ps.length) (d : Int) : WOk (ctP c u d) ws := by
  have h1 := sizeN_bd hr
  have hl := h.len
  have h2 := limN_lt c hu
  have hn := h.node u hu
  have hs := (st_nat hr).1
  have h3 : limN c c.ps.length ≤ sizeN c := by unfold sizeN; omega
  refine ⟨by simp only [ctP, ctN]; omega, by omega, h.wf, hn.live.1, hn.live.2, fun k hk => hn.gate k ?_⟩
  simp only [ctP] at hk; omega
theorem ctP_ok {c : Cf} (hr : c.Rt) {u : Nat} (hu : u < c.ps.length) {d : Int} (d0 : -1048576 ≤ d) (d1 : d ≤ 1048576) : (ctP c u d).Ok := by
  have h1 := limN_bd hr
  have h2 := limN_lt c hu
  have hg := hr.ga
  have hst := hr.st
  unfold Bd at hg
  refine ⟨by simp only [ctP, ctN]; omega, ?_, hg.1, hg.2, d0, d1⟩
  unfold Pow8; exact hst
theorem DP.pp_ok (hp : p.Ok) (i : Nat) : (p.pp i).Ok := by
  have hl := hp.rt.le
  unfold Bd at hl
  exact ⟨by simp only [DP.pp, avN, leN]; omega, hp.n0, hp.n1, hl.1, hl.2⟩
theorem DP.ap_ok (hp : p.Ok) (i : Nat) (hi : i < p.len) : (p.ap i).Ok := ctP_ok hp.rt (DP.nd_lt hp i hi) (by have := hp.n0; omega) hp.n1
theorem DP.cp_ok (hp : p.Ok) : p.cp.Ok := ⟨(ti_nat hp.rt).2.1, (ti_nat hp.rt).2.2, hp.t⟩
theorem DP.st_lt (hp : p.Ok) : p.t % p.S < p.c.st.toNat := Nat.mod_lt _ (st_nat hp.rt).2.1
theorem PSOk.more {p : PP} {B B' : Int} {s : PS} (h : PSOk p B s) (hB : B ≤ B') : PSOk p B' s :=
  ⟨h.at_, h.one, fun h3 => by have := h.three h3; omega, h.e, h.five, h.r, h.lI, h.aI, h.eI⟩
theorem s0A_ok (p : AP) (hp : p.Ok) (t : Nat) (ht : t ≤ 1000) : SOk p (s0A t) := by
  have hb := bg_bd t (by omega) (by omega)
  refine ⟨by simp [s0A], hb.1, hb.2, fun h => by simp [s0A] at h, fun h => by simp [s0A] at h, by simp [s0A, I64], fun h => by simp [s0A] at h, by simp [s0A], by simp [s0A, I64], fun h => by simp [s0A] at h, fun h => by simp [s0A] at h, by simp [s0A, I64]⟩
structure DSOk (p : DP) (B : Int) (s : DS) : Prop where
  ph : s.ph ≤ 6
  c : CSOk p.cp s.cs
  zero : s.ph = 0 → s.cs.fin = false
  had : 1 ≤ s.ph → s.ph ≤ 5 → s.cs.ok = true
  one : s.ph = 1 → s.at_ < p.len ∧ PSOk (p.pp s.at_) B s.ps ∧ s.ps.at_ ≠ 9
  two : s.ph = 2 → s.at_ < p.len ∧ s.er = 4 ∧ s.an = 0 ∧ (∃ i, i < p.len ∧ s.nd = (p.nd i : Int))
  three : s.ph = 3 ∨ s.ph = 4 → s.er = 0
  five : s.ph = 5 → s.at_ < p.len ∧ SOk (p.ap s.at_) s.as_ ∧ s.as_.at_ ≠ 9 ∧ s.lv = tnW s.cs.put 2
  six : s.ph = 6 → (s.er = 3 ∧ s.an = 0 ∧ s.nd = 0 ∧ s.cs.ok = false) ∨ (s.er = 4 ∧ s.an = 0 ∧ (∃ i, i < p.len ∧ s.nd = (p.nd i : Int)) ∧ s.cs.ok = true) ∨ (s.er = 0 ∧ s.nd = 0 ∧ s.cs.ok = true ∧ s.lv = tnW s.cs.put 2 ∧ s.an = hdV s.cs.n s.lv)
theorem DSOk.more {B' : Int} (h : DSOk p B s) (hB : B ≤ B') : DSOk p B' s :=
  ⟨h.ph, h.c, h.zero, h.had, fun e => ⟨(h.one e).1, (h.one e).2.1.more hB, (h.one e).2.2⟩, h.two, h.three, h.five, h.six⟩
theorem s0D_ok (hp : p.Ok) (B : Int) : DSOk p B (s0D p) :=
  ⟨by simp [s0D], s0C_ok (DP.cp_ok hp), fun _ => rfl, fun h => by simp [s0D] at h, fun h => by simp [s0D] at h, fun h => by simp [s0D] at h, fun h => by simp [s0D] at h, fun h => by simp [s0D] at h, fun h => by simp [s0D] at h⟩
theorem stepA_out {p : AP} {s : AS} (hs : SOk p s) (h9 : s.at_ ≠ 9) (k : Nat) (hk : k < p.b ∨ (p.b : Int) + 4 + p.S ≤ k) : (stepA p s ws lg).2.1.getD k 0 = ws.getD k 0 := by
  obtain ⟨at_, x, l, i, wv, v⟩ := s
  have h := hs.at_
  have hi := hs.i
  simp only at h h9 hi
  match at_, h, h9 with
  | 0, _, _ => rfl
  | 1, _, _ => rfl
  | 2, _, _ =>
    have := hi (by decide) (by decide)
    simp only [stepA]; split
    · simp only; rw [getD_set, if_neg (by omega)]
    · rfl
  | 3, _, _ => simp only [stepA]; rw [getD_set, if_neg (by omega)]
  | 4, _, _ =>
    have := hi (by decide) (by decide)
    simp only [stepA]; split
    · simp only; rw [getD_set, if_neg (by omega)]
    · rfl
  | 5, _, _ => simp only [stepA]; rw [getD_set, if_neg (by omega)]
  | 6, _, _ => simp only [stepA]; rw [getD_set, if_neg (by omega)]
  | 7, _, _ => simp only [stepA]; rw [getD_set, if_neg (by omega)]
  | 8, _, _ =>
    simp only [stepA]; split
    · rw [getD_set, if_neg (by omega)]
    · rfl
  | 9, _, h9 => exact absurd rfl h9
  | k + 10, h, _ => omega
theorem stepC_out {p : CP} {s : CS} (hp : p.Ok) (k : Nat) (hk : k < p.tk) : (stepC p s ws lg).2.1.getD k 0 = ws.getD k 0 := by
  unfold stepC
  split
  · rfl
  split
  · split
    · simp only; rw [getD_set, if_neg (by unfold CP.wd; omega)]
    · rfl
  · split <;> rfl
theorem DW.stepC (hp : p.Ok) (h : DW p.c B ws) (k : CS) : DW p.c B (stepC p.cp k ws lg).2.1 := by
  have h1 := CW.step (s := k) (lg := lg) (h.cw hp.rt p.t)
  refine ⟨by rw [stepC_len]; exact h.len, h1.wf, fun u hu => (h.node u hu).same (fun i h2 h3 => stepC_out (DP.cp_ok hp) i ?_)⟩
  have := limN_mono (c := p.c) (show u + 1 ≤ p.c.ps.length by omega)
  simp only [DP.cp]; omega
theorem DW.stepP (hp : p.Ok) (hB : B ≤ 1000000000000000000) (h : DW p.c B ws) (i : Nat) (hi : i < p.len) (k : PS) (hk : PSOk (p.pp i) B k) (h9 : k.at_ ≠ 9) : DW p.c (B + 1048576) (stepP (p.pp i) k ws lg).2.1 := by
  have hu := DP.nd_lt hp i hi
  have hs := DP.st_lt hp
  have hw := h.pw hp.rt hu hs p.n
  have h1 := PW.step (lg := lg) (DP.pp_ok hp i) hB hw hk
  obtain ⟨-, -, -, b4⟩ := step_bal (lg := lg) (DP.pp_ok hp i) hB hw hk h9
  have hlen := stepP_len (p := p.pp i) (s := k) (ws := ws) (lg := lg)
  have hL := hp.rt.le
  unfold Bd at hL
  have eL : (p.pp i).L = p.c.le := rfl
  have hB2 : (if k.at_ = 6 then B + (p.pp i).L else B) ≤ B + 1048576 := by rw [eL]; split <;> omega
  have hsu := limN_succ p.c (p.nd i)
  have hn := h.node _ hu
  have eav : (p.pp i).av = limN p.c (p.nd i) + 1 := rfl
  have ele : (p.pp i).le = limN p.c (p.nd i) + 2 + p.t % p.S := rfl
  have h1' := h1.more hB2
  refine h.change (by omega) (p.nd i) hlen h1.wf (fun j hj => b4 j (by omega) (by omega)) ⟨⟨h1'.a0, h1'.a1⟩, fun j hj => ?_, ?_, fun j hj => ?_⟩
  · by_cases e : j = p.t % p.S
    · subst e; exact ⟨h1.l0, h1.l1⟩
    · rw [b4 _ (by unfold leN; omega) (by unfold leN; omega)]; exact hn.le j hj
  · rw [b4 _ (by unfold ctN; omega) (by unfold ctN; omega)]; exact hn.live
  · rw [b4 _ (by unfold ctN; omega) (by unfold ctN; omega)]; exact hn.gate j hj
theorem DW.stepA {c : Cf} (hr : c.Rt) (h : DW c B ws) {u : Nat} (hu : u < c.ps.length) {d : Int} (d0 : -1048576 ≤ d) (d1 : d ≤ 1048576) (k : AS) (hk : SOk (ctP c u d) k) (h9 : k.at_ ≠ 9) : DW c B (stepA (ctP c u d) k ws lg).2.1 := by
  have h1 := WOk.step (lg := lg) (ctP_ok hr hu d0 d1) (h.wok hr hu d) hk
  have hlen := step_len (p := ctP c u d) (s := k) (ws := ws) (lg := lg)
  have hout := fun j => stepA_out (ws := ws) (lg := lg) hk h9 j
  have hsu := limN_succ c u
  have hst := (st_nat hr).1
  have hn := h.node u hu
  have eb : (ctP c u d).b = limN c u + 2 + c.st.toNat := rfl
  have eS : (ctP c u d).S = c.st := rfl
  rw [eb, eS] at hout
  refine h.change (Int.le_refl _) u hlen h1.wf (fun j hj => hout j (by omega)) ⟨?_, fun j hj => ?_, ⟨h1.live, h1.live2⟩, fun j hj => h1.gate j (by rw [eS]; omega)⟩
  · rw [hout _ (Or.inl (by unfold avN; omega))]; exact hn.av
  · rw [hout _ (Or.inl (by unfold leN; omega))]; exact hn.le j hj
theorem DW.back {c : Cf} (hr : c.Rt) (hB : B ≤ 1000000000000000000) (h : DW c B ws) {u : Nat} (hu : u < c.ps.length) {n : Int} (n0 : 0 ≤ n) (n1 : n ≤ 1048576) : DW c (B + 1048576) (ws.set (avN c u) (wrap64 (ws.getD (avN c u) 0 + n))) := by
  have hsu := limN_succ c u
  have hn := h.node u hu
  have hav := hn.av
  have hlt := limN_lt c hu
  have hl := h.len
  have h3 : limN c c.ps.length ≤ sizeN c := by unfold sizeN; omega
  have e : wrap64 (ws.getD (avN c u) 0 + n) = ws.getD (avN c u) 0 + n := by unfold wrap64; omega
  rw [e]
  have hin : avN c u < ws.length := by unfold avN; omega
  refine h.change (by omega) u (List.length_set ..) (set_wf h.wf _ _ (by unfold I64; omega)) (fun j hj => by rw [getD_set, if_neg (by unfold avN; omega)]) ⟨?_, fun j hj => ?_, ?_, fun j hj => ?_⟩
  · rw [getD_set, if_pos ⟨rfl, hin⟩]; omega
  · rw [getD_set, if_neg (by unfold avN leN; omega)]; exact hn.le j hj
  · rw [getD_set, if_neg (by unfold avN ctN; omega)]; exact hn.live
  · rw [getD_set, if_neg (by unfold avN ctN; omega)]; exact hn.gate j hj
theorem tk_in {c : Cf} (hr : c.Rt) (h : DW c B ws) {k : Nat} (hk : k < c.ti.toNat) : tkN c k + 1 < ws.length := by
  rw [h.len]; unfold tkN sizeN; omega
theorem DSOk.tic (h : DSOk p B s) (ho : s.cs.ok = true) : s.cs.n < p.c.ti.toNat ∧ I64 s.cs.put ∧ stS s.cs.put = 1 := by
  have := h.c.good ho
  exact ⟨this.2.1, this.2.2.1, this.2.2.2.1⟩
end Go.Proofs.YtjfjjmlocgmicaaGreat
end
