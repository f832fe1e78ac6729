/- Package add's machine as mem.Play steps it: its Step is stepA; New, Ans. -/
import Derived.Test.YtikncpmkjcnhhaaAdd2
import Derived.Test.YtikncpmkjcnhhaaAddMath2
import Derived.Test.YtikncpmkjcnhhaaPlay
namespace Go.Proofs.Ytikncpmkjcnhhaa
open Go.ChangeShapes Go.WideShapes Go.ChangeAt Go.RowKit Go.Shelf
set_option linter.unusedVariables false
set_option maxRecDepth 100000
variable {w0 w w' : World} {F0 : Nat → Prop} {L : List Asn} {T : TypeId} {m : Nat} {ws : List Int} {lg : List Acc}
def fnK (k : Nat) (a : Value) : Value :=
  match k with
  | 0 => .func (Fn.func 43) #[a] #[]
  | 1 => .func (Fn.func 61) #[a] #[]
  | 2 => .func (Fn.func 71) #[a] #[]
  | 3 => .func (Fn.func 72) #[a] #[]
  | 4 => .func (Fn.func 79) #[a] #[]
  | 5 => .func (Fn.func 86) #[a] #[]
  | 6 => .func (Fn.func 95) #[a] #[]
  | 7 => .func (Fn.func 87) #[a] #[]
  | 8 => .func (Fn.func 83) #[a] #[]
  | _ => .nilFunc
def asV (p : AP) (s : AS) : Value := aV p.b p.S p.g p.d s.x s.l s.i s.w s.v
def stV (p : AP) (s : AS) : Value := fnK s.at_ (asV p s)
def mchA (g : Nat) (v : Value) : Asn := blk g (.cells #[v] 105 (0, 0))
theorem func_nil (f : Fn) (c d : Array Value) (w : World) : (binOp .eql 103 (.func f c d) .nilFunc).run Try.prog w = .ok (.bool false) w := by kernel_rfl
theorem nil_nil (w : World) : (binOp .eql 103 .nilFunc .nilFunc).run Try.prog w = .ok (.bool true) w := by kernel_rfl
theorem Step_end (g : Nat) (r : Value) (h : Own w0 F0 (mchA g .nilFunc :: L) w) :
    Calls Try.prog 27 #[.pointer (some ⟨g, 0, none⟩), r] w fun e w' => e = .returned (.bool true) ∧ w = w' := by
  have c0 : w.cell? ⟨g, 0, none⟩ = some .nilFunc := h.cell (i := 0) rfl
  have fe := nil_nil
  clear h
  go_enter Try.func27, Try.ntmps27
  go_wp2_with fail
  go_ret
  exact ⟨rfl, rfl⟩
def isNil (v : Value) : Bool := match v with | .nilFunc => true | _ => false
theorem Step_go (g K : Nat) (a r v : Value) (M : Asn) (hg : ∀ args w, (callFunc K args).run Try.prog w = .ok (.enter K args) w) (hv : v = .nilFunc ∨ ∃ f c d, v = .func f c d)
    (hK : Calls Try.prog K #[a, r] w fun e w' => e = .returned v ∧ Own w0 F0 (M :: mchA g (.func (Fn.func K) #[a] #[]) :: L) w')
    {L2 : List Asn} (h : Own w0 F0 (mchA g (.func (Fn.func K) #[a] #[]) :: L2) w) :
    Calls Try.prog 27 #[.pointer (some ⟨g, 0, none⟩), r] w fun e w' => e = .returned (.bool (isNil v)) ∧ Own w0 F0 (mchA g v :: M :: L) w' := by
  have c0 : w.cell? ⟨g, 0, none⟩ = some (.func (Fn.func K) #[a] #[]) := h.cell (i := 0) rfl
  have HK := Lib.hid hK
  have Hg := Lib.hid hg
  have Hv := Lib.hid hv
  have fe := func_nil
  have fn := nil_nil
  clear h hK hv hg
  go_enter Try.func27, Try.ntmps27
  go_wp2_with fail
  rw [Hg.out]
  refine HK.out.mono ?_
  rintro e w1 ⟨rfl, hO⟩
  have c1 : w1.cell? ⟨g, 0, none⟩ = some (.func (Fn.func K) #[a] #[]) := hO.swap.cell (i := 0) rfl
  have f1 : w1.frozen? ⟨g, 0, none⟩ = false := hO.swap.unfrozen
  have H2 := Lib.hid (Own.set hO.swap 0 v)
  clear HK hO c0
  rcases Hv.out with rfl | ⟨f, c, d, rfl⟩
  · clear Hv
    go_wp2_with fail
    go_ret
    exact ⟨rfl, H2.out⟩
  · clear Hv
    go_wp2_with fail
    go_ret
    exact ⟨rfl, H2.out⟩
theorem stV_cases (p : AP) (s : AS) : stV p s = .nilFunc ∨ ∃ f c d, stV p s = .func f c d := by
  unfold stV fnK
  split <;> first | exact Or.inr ⟨_, _, _, rfl⟩ | exact Or.inl rfl
theorem misV_st (p : AP) (s : AS) : misV p.b p.S p.g p.d s.x s.l s.i s.w s.v = stV p (missA p s) := by
  unfold misV stV missA
  by_cases h : s.l < p.S
  · rw [if_pos h, if_pos h]; rfl
  · rw [if_neg h, if_neg h]; rfl
theorem isNil_mis (p : AP) (s : AS) : isNil (stV p (missA p s)) = false := by
  unfold missA; split <;> rfl
def addM (g : Nat) (p : AP) : Mach AS where
  asn s := mchA g (stV p s)
  step s ws lg := stepA p s ws lg
  ok s ws lg := p.Ok ∧ WOk p ws ∧ SOk p s ∧ lg.length < 1000000
theorem enters_K (K : Nat) (h : K = 43 ∨ K = 61 ∨ K = 71 ∨ K = 72 ∨ K = 79 ∨ K = 86 ∨ K = 95 ∨ K = 87 ∨ K = 83) :
    ∀ args w, (callFunc K args).run Try.prog w = .ok (.enter K args) w := by
  rcases h with rfl | rfl | rfl | rfl | rfl | rfl | rfl | rfl | rfl
  · exact enters_of Try.func43 (by kernel_rfl) rfl
  · exact enters_of Try.func61 (by kernel_rfl) rfl
  · exact enters_of Try.func71 (by kernel_rfl) rfl
  · exact enters_of Try.func72 (by kernel_rfl) rfl
  · exact enters_of Try.func79 (by kernel_rfl) rfl
  · exact enters_of Try.func86 (by kernel_rfl) rfl
  · exact enters_of Try.func95 (by kernel_rfl) rfl
  · exact enters_of Try.func87 (by kernel_rfl) rfl
  · exact enters_of Try.func83 (by kernel_rfl) rfl
/-- One step, from what its method's contract says. -/
theorem Step_st (g K : Nat) (p : AP) (s s' : AS) (ws' : List Int) (lg' : List Acc) (q : Bool) (v : Value) (hg : ∀ args w, (callFunc K args).run Try.prog w = .ok (.enter K args) w) (hs : stV p s = .func (Fn.func K) #[asV p s] #[])
    (hv : v = stV p s') (hq : isNil (stV p s') = q)
    (hK : Calls Try.prog K #[asV p s, .pointer (some ⟨m, 0, none⟩)] w fun e w' => e = .returned v ∧ Own w0 F0 (memA T m ws' lg' :: mchA g (stV p s) :: L) w')
    (h : Own w0 F0 (mchA g (stV p s) :: memA T m ws lg :: L) w) :
    Calls Try.prog 27 #[.pointer (some ⟨g, 0, none⟩), .pointer (some ⟨m, 0, none⟩)] w fun e w' => e = .returned (.bool q) ∧ Own w0 F0 (mchA g (stV p s') :: memA T m ws' lg' :: L) w' := by
  have h1 := hK
  subst hv hq
  rw [hs] at h1 h
  exact Step_go g K _ _ _ (memA T m ws' lg') hg (stV_cases p s') h1 h
theorem add_steps (g m : Nat) (T : TypeId) (p : AP) : StepsBy w0 F0 (addM g p) 27 (.pointer (some ⟨g, 0, none⟩)) T m := by
  intro L s ws lg w ⟨hp, hw, hs, hl⟩ h
  simp only [addM] at h ⊢
  obtain ⟨at_, x, l, i, wv, v⟩ := s
  obtain ⟨hat, x0, x1, hll, hl8, hlI, hi, hiI, hwI, hwg, hv2, hvI⟩ := hs
  simp only at hat x0 x1 hll hl8 hlI hi hiI hwI hwg hv2 hvI
  have hS := hp.S.bd
  have hlen := hw.len
  have hb := hp.b
  have hlv := hw.live.bd
  have hx : -9223372036854775808 ≤ x ∧ x ≤ 9223372036854775807 := by omega
  match at_, hat with
  | 0, _ =>
    have hm : x % ws.getD (p.b + 3) 0 = (((x % ws.getD (p.b + 3) 0).toNat : Nat) : Int) := by
      rw [Int.toNat_of_nonneg (Int.emod_nonneg _ (by omega))]
    simp only [stepA]
    have hK := begin_any (L := mchA g (stV p ⟨0, x, l, i, wv, v⟩) :: L) p.b p.S p.g p.d x l i wv v _ (by omega) x1 hb (by omega) hl rfl hlv.1 (by omega) h.swap
    refine Step_st g 43 p _ ⟨1, x, ws.getD (p.b + 3) 0, (x % ws.getD (p.b + 3) 0).toNat, wv, v⟩ _ _ false _ (enters_K _ (by simp)) (by rfl) ?_ (by rfl) hK h
    rw [hm]; rfl
  | 1, _ =>
    have hi' := hi (by decide) (by decide)
    simp only [stepA]
    have hK := look_any (L := mchA g (stV p ⟨1, x, l, i, wv, v⟩) :: L) p.b i p.S p.g p.d x l wv v _ _ hb (by omega) (by omega) hl rfl rfl (hw.wf _).1 (hw.wf _).2 hp.g0 hp.g1 hp.d0 hp.d1 h.swap
    refine Step_st g 61 p _ _ _ _ false _ (enters_K _ (by simp)) (by rfl) ?_ ?_ hK h
    · unfold lookK stV
      split <;> rfl
    · unfold stV
      split <;> rfl
  | 2, _ =>
    have hi' := hi (by decide) (by decide)
    have hv' := hv2 rfl
    have hg := hp.g1
    by_cases he : ws.getD (p.b + 4 + i) 0 = wv
    · simp only [stepA, if_pos he]
      have hK := keep_yes (L := mchA g (stV p ⟨2, x, l, i, wv, v⟩) :: L) p.b i p.S p.g p.d x l wv v hb (by omega) (by omega) hl hwI.1 hwI.2 (by omega) (by omega) he h.swap
      exact Step_st g 71 p _ _ _ _ true _ (enters_K _ (by simp)) (by rfl) (by rfl) (by rfl) hK h
    · simp only [stepA, if_neg he]
      have hK := keep_no (L := mchA g (stV p ⟨2, x, l, i, wv, v⟩) :: L) p.b i p.S p.g p.d x l wv v hb (by omega) hx.1 hx.2 (by omega) hl hwI.1 hwI.2 (by omega) (by omega) he h.swap
      exact Step_st g 71 p _ _ _ _ false _ (enters_K _ (by simp)) (by rfl) (misV_st p ⟨2, x, l, i, wv, v⟩) (isNil_mis p _) hK h
  | 3, _ =>
    simp only [stepA]
    have hK := leave_any (L := mchA g (stV p ⟨3, x, l, i, wv, v⟩) :: L) p.b i p.S p.g p.d x l wv v hb (by omega) hl h.swap
    exact Step_st g 72 p _ _ _ _ false _ (enters_K _ (by simp)) (by rfl) (by rfl) (by rfl) hK h
  | 4, _ =>
    have hi' := hi (by decide) (by decide)
    by_cases he : ws.getD (p.b + 4 + i) 0 = wv
    · simp only [stepA, if_pos he]
      have hK := empty_yes (L := mchA g (stV p ⟨4, x, l, i, wv, v⟩) :: L) p.b i p.S p.g p.d x l wv v hb (by omega) (by omega) hl hwI.1 hwI.2 he h.swap
      exact Step_st g 79 p _ _ _ _ false _ (enters_K _ (by simp)) (by rfl) (by rfl) (by rfl) hK h
    · simp only [stepA, if_neg he]
      have hK := empty_no (L := mchA g (stV p ⟨4, x, l, i, wv, v⟩) :: L) p.b i p.S p.g p.d x l wv v hb (by omega) (by omega) hl hwI.1 hwI.2 he h.swap
      exact Step_st g 79 p _ _ _ _ false _ (enters_K _ (by simp)) (by rfl) (by rfl) (by rfl) hK h
  | 5, _ =>
    simp only [stepA]
    have hK := bring_any (L := mchA g (stV p ⟨5, x, l, i, wv, v⟩) :: L) p.b i p.S p.g p.d x l wv v hb (by omega) hl h.swap
    exact Step_st g 86 p _ _ _ _ false _ (enters_K _ (by simp)) (by rfl) (by rfl) (by rfl) hK h
  | 6, _ =>
    simp only [stepA]
    have hK := end_any (L := mchA g (stV p ⟨6, x, l, i, wv, v⟩) :: L) p.b i p.S p.g p.d x l wv v hb (by omega) hl h.swap
    exact Step_st g 95 p _ _ _ _ true _ (enters_K _ (by simp)) (by rfl) (by rfl) (by rfl) hK h
  | 7, _ =>
    simp only [stepA]
    have hK := bringNothing_any (L := mchA g (stV p ⟨7, x, l, i, wv, v⟩) :: L) p.b i p.S p.g p.d x l wv v hb hx.1 hx.2 (by omega) hl h.swap
    exact Step_st g 87 p _ _ _ _ false _ (enters_K _ (by simp)) (by rfl) (misV_st p ⟨7, x, l, i, wv, v⟩) (isNil_mis p _) hK h
  | 8, _ =>
    have hl' := (hll (by decide) (by decide)).1.bd
    simp only [stepA]
    have hK := widen_any (L := mchA g (stV p ⟨8, x, l, i, wv, v⟩) :: L) p.b i p.S p.g p.d x l wv v hb hx.1 hx.2 (by omega) (by omega) hl (by omega) hl'.2 h.swap
    exact Step_st g 83 p _ _ _ _ false _ (enters_K _ (by simp)) (by rfl) (by rfl) (by rfl) hK h
  | 9, _ => exact (Step_end g _ h).mono (by rintro e w' ⟨rfl, rfl⟩; exact ⟨rfl, h⟩)
  | k + 10, hk => omega
end Go.Proofs.Ytikncpmkjcnhhaa
