/- Texts of elder layers, one behind the other: AddMach, AddFns, PackRef, AddCn, AddLaw, AddLaid, AddPlay, AddHead, AddFacts. -/
import Derived.Test.YtjfjjmlocgmicaaGreatE12
import Derived.BigQuiet
import Derived.Deep.RegionHeld3
section
namespace Go.Proofs.YtjfjjmlocgmicaaGreat
open Go.ChangeShapes Go.WideShapes Go.ChangeAt Go.RowKit Go.Shelf
set_option linter.unusedVariables false
set_option maxRecDepth 100000
variable {w0 w w' : World} {F0 : Nat → Prop} {L : List Asn} {T : TypeId} {m : Nat} {ws : List Int} {lg : List Acc}
def fnK (k : Nat) (a : Value) : Value :=
  match k with
  | 0 => .func (Fn.func 170) #[a] #[]
  | 1 => .func (Fn.func 179) #[a] #[]
  | 2 => .func (Fn.func 182) #[a] #[]
  | 3 => .func (Fn.func 183) #[a] #[]
  | 4 => .func (Fn.func 188) #[a] #[]
  | 5 => .func (Fn.func 191) #[a] #[]
  | 6 => .func (Fn.func 195) #[a] #[]
  | 7 => .func (Fn.func 192) #[a] #[]
  | 8 => .func (Fn.func 189) #[a] #[]
  | _ => .nilFunc
def asV (p : AP) (s : AS) : Value := aV p.b p.S p.g p.d s.x s.l s.i s.w s.v
def stV (p : AP) (s : AS) : Value := fnK s.at_ (asV p s)
def mchA (g : Nat) (v : Value) : Asn := blk g (.cells #[v] 188 (0, 0))
theorem func_nil (f : Fn) (c d : Array Value) (w : World) : (binOp .eql 186 (.func f c d) .nilFunc).run Tryz.prog w = .ok (.bool false) w := by kernel_rfl
theorem nil_nil (w : World) : (binOp .eql 186 .nilFunc .nilFunc).run Tryz.prog w = .ok (.bool true) w := by kernel_rfl
theorem Step_end (g : Nat) (r : Value) (h : Own w0 F0 (mchA g .nilFunc :: L) w) :
    Calls Tryz.prog 223 #[.pointer (some ⟨g, 0, none⟩), r] w fun e w' => e = .returned (.bool true) ∧ w = w' := by
  have c0 : w.cell? ⟨g, 0, none⟩ = some .nilFunc := h.cell (i := 0) rfl
  have fe := nil_nil
  clear h
  go_enter Tryz.func223, Tryz.ntmps223
  go_wp2_with fail
  go_ret
  exact ⟨rfl, rfl⟩
def isNil (v : Value) : Bool := match v with | .nilFunc => true | _ => false
theorem Step_go (g K : Nat) (a r v : Value) (M : Asn) (hg : ∀ args w, (callFunc K args).run Tryz.prog w = .ok (.enter K args) w) (hv : v = .nilFunc ∨ ∃ f c d, v = .func f c d)
    (hK : Calls Tryz.prog K #[a, r] w fun e w' => e = .returned v ∧ Own w0 F0 (M :: mchA g (.func (Fn.func K) #[a] #[]) :: L) w')
    {L2 : List Asn} (h : Own w0 F0 (mchA g (.func (Fn.func K) #[a] #[]) :: L2) w) :
    Calls Tryz.prog 223 #[.pointer (some ⟨g, 0, none⟩), r] w fun e w' => e = .returned (.bool (isNil v)) ∧ Own w0 F0 (mchA g v :: M :: L) w' := by
  have c0 : w.cell? ⟨g, 0, none⟩ = some (.func (Fn.func K) #[a] #[]) := h.cell (i := 0) rfl
  have HK := Lib.hid hK
  have Hg := Lib.hid hg
  have Hv := Lib.hid hv
  have fe := func_nil
  have fn := nil_nil
  clear h hK hv hg
  go_enter Tryz.func223, Tryz.ntmps223
  go_wp2_with fail
  rw [Hg.out]
  refine HK.out.mono ?_
  rintro e w1 ⟨rfl, hO⟩
  have c1 : w1.cell? ⟨g, 0, none⟩ = some (.func (Fn.func K) #[a] #[]) := hO.swap.cell (i := 0) rfl
  have f1 : w1.frozen? ⟨g, 0, none⟩ = false := hO.swap.unfrozen
  have H2 := Lib.hid (Own.set hO.swap 0 v)
  clear HK hO c0
  rcases Hv.out with rfl | ⟨f, c, d, rfl⟩
  · clear Hv
    go_wp2_with fail
    go_ret
    exact ⟨rfl, H2.out⟩
  · clear Hv
    go_wp2_with fail
    go_ret
    exact ⟨rfl, H2.out⟩
theorem stV_cases (p : AP) (s : AS) : stV p s = .nilFunc ∨ ∃ f c d, stV p s = .func f c d := by
  unfold stV fnK
  split <;> first | exact Or.inr ⟨_, _, _, rfl⟩ | exact Or.inl rfl
theorem misV_st (p : AP) (s : AS) : misV p.b p.S p.g p.d s.x s.l s.i s.w s.v = stV p (missA p s) := by
  unfold misV stV missA
  by_cases h : s.l < p.S
  · rw [if_pos h, if_pos h]; rfl
  · rw [if_neg h, if_neg h]; rfl
theorem isNil_mis (p : AP) (s : AS) : isNil (stV p (missA p s)) = false := by
  unfold missA; split <;> rfl
def addM (g : Nat) (p : AP) : Mach AS where
  asn s := mchA g (stV p s)
  step s ws lg := stepA p s ws lg
  ok s ws lg := p.Ok ∧ WOk p ws ∧ SOk p s ∧ lg.length < 1000000
theorem enters_K (K : Nat) (h : K = 170 ∨ K = 179 ∨ K = 182 ∨ K = 183 ∨ K = 188 ∨ K = 191 ∨ K = 195 ∨ K = 192 ∨ K = 189) :
    ∀ args w, (callFunc K args).run Tryz.prog w = .ok (.enter K args) w := by
  rcases h with rfl | rfl | rfl | rfl | rfl | rfl | rfl | rfl | rfl
  · exact enters_of Tryz.func170 (by kernel_rfl) rfl
  · exact enters_of Tryz.func179 (by kernel_rfl) rfl
  · exact enters_of Tryz.func182 (by kernel_rfl) rfl
  · exact enters_of Tryz.func183 (by kernel_rfl) rfl
  · exact enters_of Tryz.func188 (by kernel_rfl) rfl
  · exact enters_of Tryz.func191 (by kernel_rfl) rfl
  · exact enters_of Tryz.func195 (by kernel_rfl) rfl
  · exact enters_of Tryz.func192 (by kernel_rfl) rfl
  · exact enters_of Tryz.func189 (by kernel_rfl) rfl
theorem Step_st (g K : Nat) (p : AP) (s s' : AS) (ws' : List Int) (lg' : List Acc) (q : Bool) (v : Value) (hg : ∀ args w, (callFunc K args).run Tryz.prog w = .ok (.enter K args) w) (hs : stV p s = .func (Fn.func K) #[asV p s] #[])
    (hv : v = stV p s') (hq : isNil (stV p s') = q)
    (hK : Calls Tryz.prog K #[asV p s, .pointer (some ⟨m, 0, none⟩)] w fun e w' => e = .returned v ∧ Own w0 F0 (memA T m ws' lg' :: mchA g (stV p s) :: L) w')
    (h : Own w0 F0 (mchA g (stV p s) :: memA T m ws lg :: L) w) :
    Calls Tryz.prog 223 #[.pointer (some ⟨g, 0, none⟩), .pointer (some ⟨m, 0, none⟩)] w fun e w' => e = .returned (.bool q) ∧ Own w0 F0 (mchA g (stV p s') :: memA T m ws' lg' :: L) w' := by
  have h1 := hK
  subst hv hq
  rw [hs] at h1 h
  exact Step_go g K _ _ _ (memA T m ws' lg') hg (stV_cases p s') h1 h
theorem add_steps (g m : Nat) (T : TypeId) (p : AP) : StepsBy w0 F0 (addM g p) 223 (.pointer (some ⟨g, 0, none⟩)) T m := by
  intro L s ws lg w ⟨hp, hw, hs, hl⟩ h
  simp only [addM] at h ⊢
  obtain ⟨at_, x, l, i, wv, v⟩ := s
  obtain ⟨hat, x0, x1, hll, hl8, hlI, hi, hiI, hwI, hwg, hv2, hvI⟩ := hs
  simp only at hat x0 x1 hll hl8 hlI hi hiI hwI hwg hv2 hvI
  have hS := hp.S.bd
  have hlen := hw.len
  have hb := hp.b
  have hlv := hw.live.bd
  have hx : -9223372036854775808 ≤ x ∧ x ≤ 9223372036854775807 := by omega
  match at_, hat with
  | 0, _ =>
    have hm : x % ws.getD (p.b + 3) 0 = (((x % ws.getD (p.b + 3) 0).toNat : Nat) : Int) := by
      rw [Int.toNat_of_nonneg (Int.emod_nonneg _ (by omega))]
    simp only [stepA]
    have hK := begin_any (L := mchA g (stV p ⟨0, x, l, i, wv, v⟩) :: L) p.b p.S p.g p.d x l i wv v _ (by omega) x1 hb (by omega) hl rfl hlv.1 (by omega) h.swap
    refine Step_st g 170 p _ ⟨1, x, ws.getD (p.b + 3) 0, (x % ws.getD (p.b + 3) 0).toNat, wv, v⟩ _ _ false _ (enters_K _ (by simp)) (by rfl) ?_ (by rfl) hK h
    rw [hm]; rfl
  | 1, _ =>
    have hi' := hi (by decide) (by decide)
    simp only [stepA]
    have hK := look_any (L := mchA g (stV p ⟨1, x, l, i, wv, v⟩) :: L) p.b i p.S p.g p.d x l wv v _ _ hb (by omega) (by omega) hl rfl rfl (hw.wf _).1 (hw.wf _).2 hp.g0 hp.g1 hp.d0 hp.d1 h.swap
    refine Step_st g 179 p _ _ _ _ false _ (enters_K _ (by simp)) (by rfl) ?_ ?_ hK h
    · unfold lookK stV
      split <;> rfl
    · unfold stV
      split <;> rfl
  | 2, _ =>
    have hi' := hi (by decide) (by decide)
    have hv' := hv2 rfl
    have hg := hp.g1
    by_cases he : ws.getD (p.b + 4 + i) 0 = wv
    · simp only [stepA, if_pos he]
      have hK := keep_yes (L := mchA g (stV p ⟨2, x, l, i, wv, v⟩) :: L) p.b i p.S p.g p.d x l wv v hb (by omega) (by omega) hl hwI.1 hwI.2 (by omega) (by omega) he h.swap
      exact Step_st g 182 p _ _ _ _ true _ (enters_K _ (by simp)) (by rfl) (by rfl) (by rfl) hK h
    · simp only [stepA, if_neg he]
      have hK := keep_no (L := mchA g (stV p ⟨2, x, l, i, wv, v⟩) :: L) p.b i p.S p.g p.d x l wv v hb (by omega) hx.1 hx.2 (by omega) hl hwI.1 hwI.2 (by omega) (by omega) he h.swap
      exact Step_st g 182 p _ _ _ _ false _ (enters_K _ (by simp)) (by rfl) (misV_st p ⟨2, x, l, i, wv, v⟩) (isNil_mis p _) hK h
  | 3, _ =>
    simp only [stepA]
    have hK := leave_any (L := mchA g (stV p ⟨3, x, l, i, wv, v⟩) :: L) p.b i p.S p.g p.d x l wv v hb (by omega) hl h.swap
    exact Step_st g 183 p _ _ _ _ false _ (enters_K _ (by simp)) (by rfl) (by rfl) (by rfl) hK h
  | 4, _ =>
    have hi' := hi (by decide) (by decide)
    by_cases he : ws.getD (p.b + 4 + i) 0 = wv
    · simp only [stepA, if_pos he]
      have hK := empty_yes (L := mchA g (stV p ⟨4, x, l, i, wv, v⟩) :: L) p.b i p.S p.g p.d x l wv v hb (by omega) (by omega) hl hwI.1 hwI.2 he h.swap
      exact Step_st g 188 p _ _ _ _ false _ (enters_K _ (by simp)) (by rfl) (by rfl) (by rfl) hK h
    · simp only [stepA, if_neg he]
      have hK := empty_no (L := mchA g (stV p ⟨4, x, l, i, wv, v⟩) :: L) p.b i p.S p.g p.d x l wv v hb (by omega) (by omega) hl hwI.1 hwI.2 he h.swap
      exact Step_st g 188 p _ _ _ _ false _ (enters_K _ (by simp)) (by rfl) (by rfl) (by rfl) hK h
  | 5, _ =>
    simp only [stepA]
    have hK := bring_any (L := mchA g (stV p ⟨5, x, l, i, wv, v⟩) :: L) p.b i p.S p.g p.d x l wv v hb (by omega) hl h.swap
    exact Step_st g 191 p _ _ _ _ false _ (enters_K _ (by simp)) (by rfl) (by rfl) (by rfl) hK h
  | 6, _ =>
    simp only [stepA]
    have hK := end_any (L := mchA g (stV p ⟨6, x, l, i, wv, v⟩) :: L) p.b i p.S p.g p.d x l wv v hb (by omega) hl h.swap
    exact Step_st g 195 p _ _ _ _ true _ (enters_K _ (by simp)) (by rfl) (by rfl) (by rfl) hK h
  | 7, _ =>
    simp only [stepA]
    have hK := bringNothing_any (L := mchA g (stV p ⟨7, x, l, i, wv, v⟩) :: L) p.b i p.S p.g p.d x l wv v hb hx.1 hx.2 (by omega) hl h.swap
    exact Step_st g 192 p _ _ _ _ false _ (enters_K _ (by simp)) (by rfl) (misV_st p ⟨7, x, l, i, wv, v⟩) (isNil_mis p _) hK h
  | 8, _ =>
    have hl' := (hll (by decide) (by decide)).1.bd
    simp only [stepA]
    have hK := widen_any (L := mchA g (stV p ⟨8, x, l, i, wv, v⟩) :: L) p.b i p.S p.g p.d x l wv v hb hx.1 hx.2 (by omega) (by omega) hl (by omega) hl'.2 h.swap
    exact Step_st g 189 p _ _ _ _ false _ (enters_K _ (by simp)) (by rfl) (by rfl) (by rfl) hK h
  | 9, _ => exact (Step_end g _ h).mono (by rintro e w' ⟨rfl, rfl⟩; exact ⟨rfl, h⟩)
  | k + 10, hk => omega
end Go.Proofs.YtjfjjmlocgmicaaGreat
end
section
namespace Go.Proofs.YtjfjjmlocgmicaaGreat
open Go.ChangeShapes Go.WideShapes Go.ChangeAt Go.RowKit Go.Shelf
set_option linter.unusedVariables false
set_option maxRecDepth 100000
variable {w0 w w' : World} {F0 : Nat → Prop} {L : List Asn} {T : TypeId} {m : Nat} {ws : List Int} {lg : List Acc}
def s0A (t : Int) : AS := ⟨0, bg t, 0, 0, 0, 0⟩
theorem addNew_any (p : AP) (t : Int) (t0 : 0 ≤ t) (t1 : t ≤ 1000) (h : Own w0 F0 L w) :
    Calls Tryz.prog 158 #[.int .i64 p.b, .int .i64 p.S, .int .i64 p.g, .int .i64 p.d, .int .i64 t] w fun e w' =>
      ∃ g, e = .returned (.pointer (some ⟨g, 0, none⟩)) ∧ Own w0 F0 (mchA g (stV p (s0A t)) :: L) w' := by
  have HB := fun w => Lib.hid (Begin_any t t0 t1 w)
  go_enter Tryz.func158, Tryz.ntmps158
  go_wp2_with fail
  refine (HB _).out.mono ?_
  rintro e w1 ⟨rfl, rfl⟩
  have H2 := Lib.hid ((h.new (aO p.b p.S p.g p.d (bg t) 0 0 0 0)))
  go_wp2_with fail
  go_ret
  refine ⟨_, rfl, ?_⟩
  have H3 := H2.out.drop.new (.cells #[stV p (s0A t)] 188)
  rw [World.size_alloc] at H3
  exact H3
theorem sum_wrap (a b : Int) : wrap64 (wrap64 a + b) = wrap64 (a + b) := by unfold wrap64; omega
theorem wrap64_id (a : Int) (h : I64 a) : wrap64 a = a := by unfold I64 at h; unfold wrap64; omega
set_option maxHeartbeats 400000 in
theorem addSum_b (p : AP) (S : Nat) (hS : p.S = S) (hS0 : 1 ≤ S) (hS1 : S ≤ 8) (hb : p.b ≤ 1000) (hl : p.b + 4 + S ≤ ws.length) (hn : ws.length ≤ 1000000) (hwf : ∀ k, I64 (ws.getD k 0)) (h : Own w0 F0 (memA T m ws lg :: L) w) :
    Calls Tryz.prog 26 #[.pointer (some ⟨m, 0, none⟩), .int .i64 p.b, .int .i64 S] w fun e w' => e = .returned (.int .i64 (wrap64 (sumZ p ws))) ∧ Below w.heap.size w w' := by
  have HW := Lib.hid (Words_b hn h)
  have HV := fun (y : Int) (hy : I64 y) w => Lib.hid (Value_any y hy.1 hy.2 w)
  have B0 : (0 : Int) ≤ p.b := by omega
  have B1 : (p.b : Int) < ws.length := by omega
  have B2 : (p.b : Int) + 4 < ws.length := by omega
  have B3 : (p.b : Int) + 4 + S ≤ ws.length := by omega
  have B4 : (ws.length : Int) ≤ 1000000 := by omega
  obtain ⟨R, hR⟩ : ∃ R, R = wrap64 (sumZ p ws) := ⟨_, rfl⟩
  rw [← hR]
  have HR := Lib.hid hR
  have Hwf := Lib.hid hwf
  clear h hR hwf
  go_enter Tryz.func26, Tryz.ntmps26
  go_wp2_with fail
  refine HW.out.mono ?_
  rintro e w1 ⟨v, rfl, hO⟩
  have hI := hO.intsAt.at (by omega)
  have HO := Lib.hid hO.toBelow
  obtain ⟨a0, cap0, cur, hv0, hnc, _⟩ := hO.rowBlk (by omega)
  obtain ⟨a, off, cap, rfl, hc⟩ := hI
  injection hv0 with hv0 _ hv1
  injection hv0 with hv0
  injection hv0 with hv2 hv3
  subst hv1 hv2 hv3
  simp only [Nat.zero_add] at hc
  have hcap : ws.length ≤ cap := hnc
  have d1 : decide ((p.b : Int) < 0) = false := by simp
  have d2 : decide (ws.length ≤ p.b) = false := by simp; omega
  have c0 := hc p.b (by omega)
  have Hc := Lib.hid hc
  clear hc hO HW hnc
  have H0 := Lib.hid (show wrap64 (ws.getD p.b 0 + strN p.b ws 0) = ws.getD p.b 0 from by rw [strN, Int.add_zero]; exact wrap64_id _ (Hwf.out _))
  generalize hy0 : ws.getD p.b 0 = y0 at c0 H0
  have Hy0 := Lib.hid hy0
  clear hy0
  go_wp2_with fail
  go_loopw [8, 9, 10, 33] (fun v8 v9 v10 v33 wr => ∃ k : Nat, k ≤ S ∧ v8 = .int .i64 (wrap64 (ws.getD p.b 0 + strN p.b ws k)) ∧ v33 = .int .i64 k ∧ w1 = wr) (fun v8 v9 v10 v33 _ => S - (intOf v33).toNat)
  case atStart => exact ⟨0, Nat.zero_le _, by have h0 := H0.out; rw [strN, Int.add_zero] at h0; rw [strN, Int.add_zero, Hy0.out, h0], rfl, rfl⟩
  case round =>
    obtain ⟨k, hk, rfl, rfl, rfl⟩ := hrel
    clear H0 c0
    by_cases hlt : k < S
    · have K1 : k < ws.length - (p.b + 4) := by omega
      have c1 := Hc.out (p.b + 4 + k) (by omega)
      have HV1 := HV _ (Hwf.out (p.b + 4 + k))
      have Hs := Lib.hid (sum_wrap (ws.getD p.b 0 + strN p.b ws k) (pval (ws.getD (p.b + 4 + k) 0)))
      have Hn := Lib.hid (show ws.getD p.b 0 + strN p.b ws k + pval (ws.getD (p.b + 4 + k) 0) = ws.getD p.b 0 + strN p.b ws (k + 1) by rw [strN]; omega)
      have pb := pval_bd (ws.getD (p.b + 4 + k) 0)
      generalize ws.getD p.b 0 + strN p.b ws k = s0 at Hs Hn ⊢
      generalize ws.getD (p.b + 4 + k) 0 = y at c1 HV1 Hs Hn pb
      go_wp2_with fail
      refine (HV1 _).out.mono ?_
      rintro e w2 ⟨rfl, rfl⟩
      generalize pval y = py at Hs Hn pb
      go_wp2_with fail
      go_roundw
      case rel => exact ⟨k + 1, by omega, by rw [Hs.out, Hn.out], by go_num, trivial⟩
      case measure => simp [intOf]; omega
    · obtain rfl : k = S := by omega
      have hR : wrap64 (ws.getD p.b 0 + strN p.b ws k) = R := by rw [HR.out]; unfold sumZ; rw [hS]; rfl
      rw [hR]
      by_cases h2 : k < ws.length - (p.b + 4)
      · have c1 := Hc.out (p.b + 4 + k) (by omega)
        generalize ws.getD (p.b + 4 + k) 0 = y at c1
        go_wp2_with fail
        go_ret
        exact ⟨rfl, HO.out⟩
      · have h3 : ws.length - (p.b + 4) = k := by omega
        go_wp2_with fail
        go_ret
        exact ⟨rfl, HO.out⟩
end Go.Proofs.YtjfjjmlocgmicaaGreat
end
section
namespace Go.Proofs.YtjfjjmlocgmicaaGreat
open Go.ChangeShapes Go.WideShapes Go.ChangeAt Go.RowKit
set_option linter.unusedVariables false
theorem rVersion_any (a : Int) (ha : -9223372036854775808 ≤ a) (ha1 : a ≤ 9223372036854775807) (w : World) :
    Calls Tryz.prog 32 #[.int .i64 a] w fun e w' => e = .returned (.int .i64 (pver a)) ∧ w = w' := by
  have Hu := u64_bd a
  have H := Lib.hid (u64_eq a)
  go_enter Tryz.func32, Tryz.ntmps32
  go_wp2
  go_ret
  exact ⟨ret_int (by rw [H.out]; unfold pver; omega), rfl⟩
theorem rValue_any (a : Int) (ha : -9223372036854775808 ≤ a) (ha1 : a ≤ 9223372036854775807) (w : World) :
    Calls Tryz.prog 73 #[.int .i64 a] w fun e w' => e = .returned (.int .i64 (pval a)) ∧ w = w' := by
  have Hu := u64_bd a
  have H := Lib.hid (u64_eq a)
  by_cases h : 2147483648 ≤ IntKind.u64.wrap a % 4294967296
  · go_enter Tryz.func73, Tryz.ntmps73
    go_wp2
    go_ret
    exact ⟨ret_int (by rw [H.out]; rw [H.out] at h; unfold pval wrap32; omega), rfl⟩
  · have h' : IntKind.u64.wrap a % 4294967296 < 2147483648 := by omega
    clear h
    go_enter Tryz.func73, Tryz.ntmps73
    go_wp2
    go_ret
    exact ⟨ret_int (by rw [H.out]; rw [H.out] at h'; unfold pval wrap32; omega), rfl⟩
theorem rWord_yes (a b : Int) (h0 : 0 ≤ a) (h1 : a ≤ 4294967295) (h2 : -2147483648 ≤ b) (h3 : b ≤ 2147483647)  (w : World) :
    Calls Tryz.prog 58 #[.int .i64 a, .int .i64 b] w fun e w' => e = .returned (.tuple #[.int .i64 (sg (pmk a b)), .bool true]) ∧ w = w' := by
  have D1 : a < 4294967296 := by omega
  have D3 : b < 2147483648 := by omega
  have H := Lib.hid (or_pair a b h0 h1)
  go_enter Tryz.func58, Tryz.ntmps58
  go_wp2
  go_ret2
  exact ⟨by rw [H.out]; rfl, rfl⟩
theorem rNext_yes (a b : Int) (h2 : -2147483648 ≤ b) (h3 : b ≤ 2147483647) (ha : -9223372036854775808 ≤ a) (ha1 : a ≤ 9223372036854775807) (w : World) :
    Calls Tryz.prog 122 #[.int .i64 a, .int .i64 b] w fun e w' => e = .returned (.tuple #[.int .i64 (sg (pmk ((pver a + 1) % 4294967296) b)), .bool true]) ∧ w = w' := by
  have hv := pver_bd a
  by_cases hl : pver a = 4294967295
  · have H3 := Lib.hid (show (pver a + 1) % 4294967296 = 0 by omega)
    have F := beq_t (show pver a + 1 = 4294967296 by omega)
    clear hl
    go_enter Tryz.func122, Tryz.ntmps122
    go_wp2_with fail
    refine (rVersion_any _ (by omega) (by omega) _).mono ?_
    rintro e w' ⟨rfl, rfl⟩
    go_wp2_with fail
    refine (rWord_yes _ _ (by omega) (by omega) (by omega) (by omega) _).mono ?_
    rintro e w' ⟨rfl, rfl⟩
    go_wp2_with fail
    go_ret2
    exact ⟨by rw [H3.out]; rfl, rfl⟩
  · have H3 := Lib.hid (up_yes a hl)
    have F := beq_f (show pver a + 1 ≠ 4294967296 by omega)
    have hb : pver a + 1 ≤ 4294967295 := by omega
    clear hl
    go_enter Tryz.func122, Tryz.ntmps122
    go_wp2_with fail
    refine (rVersion_any _ (by omega) (by omega) _).mono ?_
    rintro e w' ⟨rfl, rfl⟩
    go_wp2_with fail
    refine (rWord_yes _ _ (by omega) (by omega) (by omega) (by omega) _).mono ?_
    rintro e w' ⟨rfl, rfl⟩
    go_wp2_with fail
    go_ret2
    exact ⟨by rw [H3.out]; rfl, rfl⟩
end Go.Proofs.YtjfjjmlocgmicaaGreat
end
section
namespace Go.Proofs.YtjfjjmlocgmicaaGreat
open Go.ChangeShapes Go.WideShapes Go.ChangeAt Go.RowKit Go.Shelf
set_option linter.unusedVariables false
set_option maxRecDepth 100000
variable {w0 w w' : World} {F0 : Nat → Prop} {L : List Asn} {T : TypeId} {m : Nat} {ws : List Int} {lg : List Acc}
end Go.Proofs.YtjfjjmlocgmicaaGreat
end
section
namespace Go.Proofs.YtjfjjmlocgmicaaGreat
open Go.ChangeShapes Go.WideShapes Go.ChangeAt Go.RowKit Go.Shelf
set_option linter.unusedVariables false
set_option maxRecDepth 100000
variable {W w w' : World} {L : List Asn} {T : TypeId} {m : Nat} {ws : List Int} {lg : List Acc}
end Go.Proofs.YtjfjjmlocgmicaaGreat
end
section
namespace Go.Proofs.YtjfjjmlocgmicaaGreat
open Go.ChangeShapes Go.WideShapes Go.ChangeAt Go.RowKit Go.Shelf
set_option linter.unusedVariables false
set_option maxRecDepth 100000
variable {w0 w w' : World} {F0 : Nat → Prop} {L : List Asn} {ws : List Int}
end Go.Proofs.YtjfjjmlocgmicaaGreat
end
section
namespace Go.Proofs.YtjfjjmlocgmicaaGreat
open Go.ChangeShapes Go.WideShapes Go.ChangeAt Go.RowKit Go.Shelf
set_option linter.unusedVariables false
set_option maxRecDepth 100000
variable {w0 w w' : World} {F0 : Nat → Prop} {L : List Asn} {ws : List Int} {lg : List Acc} {p : AP}
def alI (p : AP) (x : Int) (ws : List Int) : Nat := (x % ws.getD (p.b + 3) 0).toNat
def alU (p : AP) (x : Int) (ws : List Int) : Int := pval (ws.getD (p.b + 4 + alI p x ws) 0) + p.d
def alIn (p : AP) (x : Int) (ws : List Int) : Prop := -p.g < alU p x ws ∧ alU p x ws < p.g
def alK (p : AP) (x : Int) (ws : List Int) : List Int := ws.set (p.b + 4 + alI p x ws) (nxt (ws.getD (p.b + 4 + alI p x ws) 0) (alU p x ws))
def alF (p : AP) (x : Int) (ws : List Int) : List Int :=
  (((ws.set (p.b + 1) (wrap64 (ws.getD (p.b + 1) 0 + 1))).set (p.b + 4 + alI p x ws) (nxt (ws.getD (p.b + 4 + alI p x ws) 0) 0)).set p.b (wrap64 (ws.getD p.b 0 + alU p x ws))).set (p.b + 2) (wrap64 (ws.getD (p.b + 2) 0 + 1))
def al1 (p : AP) (x : Int) (ws : List Int) (lg : List Acc) : List Acc := lg ++ [⟨1, (p.b : Int) + 3, ws.getD (p.b + 3) 0, 0, false⟩] ++ [⟨1, (p.b : Int) + 4 + alI p x ws, ws.getD (p.b + 4 + alI p x ws) 0, 0, false⟩]
def alS (p : AP) (x : Int) (ws : List Int) (k : Nat) : AS := ⟨k, x, ws.getD (p.b + 3) 0, alI p x ws, ws.getD (p.b + 4 + alI p x ws) 0, alU p x ws⟩
theorem alone_look (g : Nat) (f t : Nat) (x a b c : Int) (i : Nat) (k : Nat) (h : (if -p.g < alU p x ws ∧ alU p x ws < p.g then 2 else 3) = k) :
    playF (addM g p) [] (f + 2) t ⟨0, x, a, i, b, c⟩ ws lg = playF (addM g p) [] f (t + 2) (alS p x ws k) ws (al1 p x ws lg) := by
  subst h
  rw [playF_step (s1 := ⟨1, x, ws.getD (p.b + 3) 0, alI p x ws, b, c⟩) (ws1 := ws) (lg1 := lg ++ [⟨1, (p.b : Int) + 3, ws.getD (p.b + 3) 0, 0, false⟩]) rfl]
  rw [playF_step (s1 := alS p x ws (if -p.g < alU p x ws ∧ alU p x ws < p.g then 2 else 3)) (ws1 := ws) (lg1 := al1 p x ws lg) rfl]
theorem alone_keep (g : Nat) (f t : Nat) (x a b c : Int) (i : Nat) (h : alIn p x ws) :
    ∃ lg', playF (addM g p) [] (f + 3) t ⟨0, x, a, i, b, c⟩ ws lg = (t + 3, true, alS p x ws 9, alK p x ws, lg') ∧ lg'.length = lg.length + 3 := by
  refine ⟨al1 p x ws lg ++ [⟨3, (p.b : Int) + 4 + alI p x ws, ws.getD (p.b + 4 + alI p x ws) 0, nxt (ws.getD (p.b + 4 + alI p x ws) 0) (alU p x ws), true⟩], ?_, by simp [al1]⟩
  rw [show f + 3 = (f + 1) + 2 from rfl, alone_look g (f + 1) t x a b c i 2 (if_pos h)]
  rw [playF_end (s1 := alS p x ws 9) (ws1 := alK p x ws) (by simp only [addM]; exact if_pos rfl)]
  rfl
theorem alone_bring (g : Nat) (f t : Nat) (x a b c : Int) (i : Nat) (h : ¬ alIn p x ws) :
    ∃ lg', playF (addM g p) [] (f + 6) t ⟨0, x, a, i, b, c⟩ ws lg = (t + 6, true, alS p x ws 9, alF p x ws, lg') ∧ lg'.length = lg.length + 6 := by
  let W1 := ws.set (p.b + 1) (wrap64 (ws.getD (p.b + 1) 0 + 1))
  let W2 := W1.set (p.b + 4 + alI p x ws) (nxt (ws.getD (p.b + 4 + alI p x ws) 0) 0)
  let W3 := W2.set p.b (wrap64 (ws.getD p.b 0 + alU p x ws))
  let G1 := al1 p x ws lg ++ [⟨2, (p.b : Int) + 1, 1, wrap64 (ws.getD (p.b + 1) 0 + 1), false⟩]
  let G2 := G1 ++ [⟨3, (p.b : Int) + 4 + alI p x ws, ws.getD (p.b + 4 + alI p x ws) 0, nxt (ws.getD (p.b + 4 + alI p x ws) 0) 0, true⟩]
  let G3 := G2 ++ [⟨2, (p.b : Int), alU p x ws, wrap64 (ws.getD p.b 0 + alU p x ws), false⟩]
  have e1 : W1.getD (p.b + 4 + alI p x ws) 0 = ws.getD (p.b + 4 + alI p x ws) 0 := by simp only [W1]; rw [getD_set, if_neg (by omega)]
  have e2 : W2.getD p.b 0 = ws.getD p.b 0 := by simp only [W2, W1]; rw [getD_set, getD_set, if_neg (by omega), if_neg (by omega)]
  have e3 : W3.getD (p.b + 2) 0 = ws.getD (p.b + 2) 0 := by simp only [W3, W2, W1]; rw [getD_set, getD_set, getD_set, if_neg (by omega), if_neg (by omega), if_neg (by omega)]
  refine ⟨G3 ++ [⟨2, (p.b : Int) + 2, 1, wrap64 (ws.getD (p.b + 2) 0 + 1), false⟩], ?_, by simp [G3, G2, G1, al1]⟩
  rw [show f + 6 = (f + 4) + 2 from rfl, alone_look g (f + 4) t x a b c i 3 (if_neg h)]
  rw [playF_step (s1 := alS p x ws 4) (ws1 := W1) (lg1 := G1) rfl]
  rw [playF_step (s1 := alS p x ws 5) (ws1 := W2) (lg1 := G2) (by simp only [addM]; exact if_pos e1)]
  rw [playF_step (s1 := alS p x ws 6) (ws1 := W3) (lg1 := G3) (by simp only [addM]; show (alS p x ws 6, W2.set p.b (wrap64 (W2.getD p.b 0 + alU p x ws)), G2 ++ [⟨2, (p.b : Int), alU p x ws, wrap64 (W2.getD p.b 0 + alU p x ws), false⟩], false) = _; rw [e2])]
  rw [playF_end (s1 := alS p x ws 9) (ws1 := alF p x ws) (by
    simp only [addM]
    show (alS p x ws 9, W3.set (p.b + 2) (wrap64 (W3.getD (p.b + 2) 0 + 1)), G3 ++ [⟨2, (p.b : Int) + 2, 1, wrap64 (W3.getD (p.b + 2) 0 + 1), false⟩], true) = _
    rw [e3]; rfl)]
end Go.Proofs.YtjfjjmlocgmicaaGreat
end
section
namespace Go.Proofs.YtjfjjmlocgmicaaGreat
open Go.ChangeShapes Go.WideShapes Go.ChangeAt Go.RowKit Go.Shelf
set_option linter.unusedVariables false
set_option maxRecDepth 100000
variable {w0 w w' : World} {F0 : Nat → Prop} {L : List Asn} {ws : List Int} {lg : List Acc} {p : AP}
def hw0 : List Int := [0, 0, 0, 1, 0, 0]
def hw1 : List Int := [0, 0, 0, 1, 4294967299, 0]
def hw2 : List Int := [5, 1, 1, 1, 8589934592, 0]
end Go.Proofs.YtjfjjmlocgmicaaGreat
end
section
namespace Go.Proofs.YtjfjjmlocgmicaaGreat
open Go.RowKit
set_option linter.unusedVariables false
theorem alI_lt {p : AP} {ws : List Int} (hw : WOk p ws) (x : Int) : (alI p x ws : Int) < p.S := by
  have hl := hw.live.bd
  have hl2 := hw.live2
  have m0 := Int.emod_nonneg x (b := ws.getD (p.b + 3) 0) (by omega)
  have m1 := Int.emod_lt_of_pos x (b := ws.getD (p.b + 3) 0) (by omega)
  unfold alI; omega
structure Alone (p : AP) (ws ws' : List Int) (n : Nat) : Prop where
  n36 : n = 3 ∨ n = 6
  ok : WOk p ws'
  len : ws'.length = ws.length
  sum : ∃ k : Int, sumZ p ws' = sumZ p ws + p.d + k * 18446744073709551616
  out : ∀ i, i < p.b ∨ (p.b : Int) + 4 + p.S ≤ i → ws'.getD i 0 = ws.getD i 0
  begun : ws'.getD (p.b + 1) 0 = if n = 6 then wrap64 (ws.getD (p.b + 1) 0 + 1) else ws.getD (p.b + 1) 0
  done : ws'.getD (p.b + 2) 0 = if n = 6 then wrap64 (ws.getD (p.b + 2) 0 + 1) else ws.getD (p.b + 2) 0
  live : ws'.getD (p.b + 3) 0 = ws.getD (p.b + 3) 0
  glob : n = 3 → ws'.getD p.b 0 = ws.getD p.b 0
  zero : p.d = 0 → n = 3
  globn : n = 6 → ∃ u : Int, -2097152 ≤ u ∧ u ≤ 2097152 ∧ ws'.getD p.b 0 = wrap64 (ws.getD p.b 0 + u)
theorem alone_any {p : AP} {ws : List Int} (hp : p.Ok) (hw : WOk p ws) (g : Nat) (x : Int) (hx0 : 1 ≤ x) (hx1 : x ≤ 4294967295) (f : Nat) (hf : 6 ≤ f) (lg : List Acc) :
    ∃ (n : Nat) (s : AS) (ws' : List Int) (lg' : List Acc), playF (addM g p) [] f 0 ⟨0, x, 0, 0, 0, 0⟩ ws lg = (n, true, s, ws', lg') ∧ s.at_ = 9 ∧ lg'.length = lg.length + n ∧ Alone p ws ws' n := by
  have hi := alI_lt hw x
  have hS := hp.S.bd
  have hlen := hw.len
  have hgt := hw.gate _ hi
  have g0 := hp.g0
  have g1 := hp.g1
  have d0 := hp.d0
  have d1 := hp.d1
  by_cases h : alIn p x ws
  · obtain ⟨lg', e, hl⟩ := alone_keep (p := p) (ws := ws) (lg := lg) g (f - 3) 0 x 0 0 0 0 h
    rw [show f - 3 + 3 = f by omega] at e
    refine ⟨3, _, _, lg', e, rfl, hl, Or.inl rfl, ?_, ?_, ⟨0, ?_⟩, fun i hi => ?_, ?_, ?_, ?_, fun _ => ?_, fun _ => rfl, fun h => by simp at h⟩
    · exact hw.setStripe hp _ _ _ h.1 h.2
    · simp [alK]
    · unfold alIn at h
      unfold alK
      rw [sumZ_stripe hw _ _ hi, pval_nxt _ _ (by omega) (by omega)]
      unfold alU; omega
    · unfold alK; rw [getD_set, if_neg (by omega)]
    · unfold alK; rw [getD_set, if_neg (by omega)]; simp
    · unfold alK; rw [getD_set, if_neg (by omega)]; simp
    · unfold alK; rw [getD_set, if_neg (by omega)]
    · unfold alK; rw [getD_set, if_neg (by omega)]
  · obtain ⟨lg', e, hl⟩ := alone_bring (p := p) (ws := ws) (lg := lg) g (f - 6) 0 x 0 0 0 0 h
    rw [show f - 6 + 6 = f by omega] at e
    have ok1 := hw.setLow (p.b + 1) (wrap64 (ws.getD (p.b + 1) 0 + 1)) (wrap64_I _) (by omega)
    have ok2 := ok1.setStripe hp (alI p x ws) (ws.getD (p.b + 4 + alI p x ws) 0) 0 (by omega) (by omega)
    have ok3 := ok2.setLow p.b (wrap64 (ws.getD p.b 0 + alU p x ws)) (wrap64_I _) (by omega)
    have ok4 := ok3.setLow (p.b + 2) (wrap64 (ws.getD (p.b + 2) 0 + 1)) (wrap64_I _) (by omega)
    refine ⟨6, _, _, lg', e, rfl, hl, Or.inr rfl, ok4, ?_, ?_, fun i hi => ?_, ?_, ?_, ?_, fun h => by simp at h, fun h0 => absurd (show alIn p x ws from by unfold alIn alU; rw [h0]; omega) h, fun _ => ⟨alU p x ws, ?_, ?_, ?_⟩⟩
    · simp [alF]
    · obtain ⟨k, hk⟩ := wrap64_ex (ws.getD p.b 0 + alU p x ws)
      refine ⟨k, ?_⟩
      unfold alF
      rw [sumZ_low _ _ (by omega) (by omega), sumZ_glob _ (by simp; omega), getD_set, if_neg (by omega), getD_set, if_neg (by omega), sumZ_stripe ok1 _ _ hi, getD_set, if_neg (by omega), sumZ_low _ _ (by omega) (by omega), pval_nxt _ _ (by omega) (by omega), hk]
      unfold alU; omega
    · unfold alF
      rw [getD_set, if_neg (by omega), getD_set, if_neg (by omega), getD_set, if_neg (by omega), getD_set, if_neg (by omega)]
    · unfold alF
      rw [getD_set, if_neg (by omega), getD_set, if_neg (by omega), getD_set, if_neg (by omega), getD_set, if_pos ⟨rfl, by omega⟩, if_pos rfl]
    · unfold alF
      rw [getD_set, if_pos ⟨rfl, by simp; omega⟩, if_pos rfl]
    · unfold alF
      rw [getD_set, if_neg (by omega), getD_set, if_neg (by omega), getD_set, if_neg (by omega), getD_set, if_neg (by omega)]
    · unfold alU; omega
    · unfold alU; omega
    · unfold alF
      rw [getD_set, if_neg (by omega), getD_set, if_pos ⟨rfl, by simp; omega⟩]
theorem sumZ_of {p q : AP} (ws : List Int) (hb : p.b = q.b) (hS : p.S = q.S) : sumZ p ws = sumZ q ws := by unfold sumZ; rw [hb, hS]
theorem step_flag {p : AP} {s : AS} {ws : List Int} {lg : List Acc} (hs : SOk p s) : (stepA p s ws lg).2.2.2 = ((stepA p s ws lg).1.at_ == 9) := by
  have := step_end (ws := ws) (lg := lg) hs
  by_cases h : (stepA p s ws lg).1.at_ = 9
  · rw [this.2 h]; simp [h]
  · have h2 : (stepA p s ws lg).2.2.2 = false := by
      cases hb : (stepA p s ws lg).2.2.2
      · rfl
      · exact absurd (this.1 hb) h
    rw [h2]; simp [h]
end Go.Proofs.YtjfjjmlocgmicaaGreat
end
