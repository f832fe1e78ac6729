/- The functions of breadlinelaw08: Good, Of. -/
import Derived.Test.YtlkiadionpnijaaPoolArg
import Derived.Test.YtlkiadionpnijaaPlanRef
import Derived.Test.YtlkiadionpnijaaConfRef
import Derived.BigQuiet
import Derived.Deep.QuietTactic
namespace Go.Proofs.Ytlkiadionpnijaa
open Go.ChangeShapes Go.WideShapes Go.ChangeAt Go.RowKit Go.Shelf
set_option linter.unusedVariables false
set_option linter.unusedSimpArgs false
set_option maxRecDepth 100000
variable {w0 w w' W : World} {F0 : Nat → Prop} {L : List Asn} {T : TypeId} {m : Nat} {ws : List Int} {lg : List Acc}
def poO (x : Po) (vp vl ve vk : Value) : Obj := .cells #[.int .i64 x.c.th, .int .i64 x.c.st, .int .i64 x.c.ga, .int .i64 x.c.le, .int .i64 x.c.re, .int .i64 x.c.ti, vp, vl, .int .u8 x.nd, .int .u32 x.n, .int .u8 x.sp, .int .u32 x.av, ve, vk] 29 (0, 0)
theorem poCells {b : Nat} {x : Po} {vp vl ve vk : Value} (h : Own w0 F0 (blk b (poO x vp vl ve vk) :: L) w) :
    w.cell? ⟨b, 0, none⟩ = some (.int .i64 x.c.th) ∧ w.cell? ⟨b, 1, none⟩ = some (.int .i64 x.c.st) ∧ w.cell? ⟨b, 2, none⟩ = some (.int .i64 x.c.ga) ∧ w.cell? ⟨b, 3, none⟩ = some (.int .i64 x.c.le) ∧ w.cell? ⟨b, 4, none⟩ = some (.int .i64 x.c.re) ∧ w.cell? ⟨b, 5, none⟩ = some (.int .i64 x.c.ti) ∧ w.cell? ⟨b, 6, none⟩ = some vp ∧ w.cell? ⟨b, 7, none⟩ = some vl ∧ w.cell? ⟨b, 8, none⟩ = some (.int .u8 x.nd) ∧ w.cell? ⟨b, 9, none⟩ = some (.int .u32 x.n) ∧ w.cell? ⟨b, 10, none⟩ = some (.int .u8 x.sp) ∧ w.cell? ⟨b, 11, none⟩ = some (.int .u32 x.av) ∧ w.cell? ⟨b, 12, none⟩ = some ve ∧ w.cell? ⟨b, 13, none⟩ = some vk :=
  ⟨h.cell (i := 0) rfl, h.cell (i := 1) rfl, h.cell (i := 2) rfl, h.cell (i := 3) rfl, h.cell (i := 4) rfl, h.cell (i := 5) rfl, h.cell (i := 6) rfl, h.cell (i := 7) rfl, h.cell (i := 8) rfl, h.cell (i := 9) rfl, h.cell (i := 10) rfl, h.cell (i := 11) rfl, h.cell (i := 12) rfl, h.cell (i := 13) rfl⟩
structure GoodP (x : Po) : Prop where
  rt : x.c.Rt
  l : x.l.length ≤ 40
  ls : x.ls.length ≤ 20
/-- The rows of a pool that came in. -/
structure PoAt (W : World) (x : Po) (vp vl ve vk : Value) : Prop where
  wd : Wide x.c
  wf : x.Wf
  p : IntsAt W .i64 vp x.c.ps
  l : IntsAt W .i64 vl x.c.ls
  e : IntsAt W .u32 ve x.ls
  k : PksAt W vk x.l
theorem PoAt.stp {x : Po} {vp vl ve vk : Value} (h : PoAt W x vp vl ve vk) (hb : Stp W w) : PoAt w x vp vl ve vk := ⟨h.wd, h.wf, h.p.stp hb, h.l.stp hb, h.e.stp hb, RowAt.below h.k hb⟩
section
variable {x : Po} {pp pl pe pk : Option Addr} {cp cl ce ck : Nat}
set_option maxHeartbeats 1000000 in
theorem pGood_any (x : Po) (b1 b2 b3 : Bool) (hle : x.l.length ≤ 9223372036854775807) (hls : x.ls.length ≤ 9223372036854775807)
    (HG : ∀ w, Calls Try.prog 37 #[cfV x.c (.slice pp x.c.ps.length cp) (.slice pl x.c.ls.length cl)] w fun e w' => e = .returned (.bool false) ∧ Below w.heap.size w w')
    (HR : ∀ w', Stp w w' → Calls Try.prog 38 #[cfV x.c (.slice pp x.c.ps.length cp) (.slice pl x.c.ls.length cl)] w' fun e w'' => e = .returned (.bool b1) ∧ Below w'.heap.size w' w'')
    (h2 : decide ((x.l.length : Int) ≤ 40) = b2) (h3 : decide ((x.ls.length : Int) ≤ 20) = b3) :
    Calls Try.prog 10 #[poV x (.slice pp x.c.ps.length cp) (.slice pl x.c.ls.length cl) (.slice pe x.ls.length ce) (.slice pk x.l.length ck)] w fun e w' => e = .returned (.bool (b1 && b2 && b3)) ∧ Below w.heap.size w w' := by
  have HG := fun w => Lib.hid (HG w)
  have HR := fun w' h => Lib.hid (HR w' h)
  have hS := (Own.start w).new (poO x (.slice pp x.c.ps.length cp) (.slice pl x.c.ls.length cl) (.slice pe x.ls.length ce) (.slice pk x.l.length ck))
  obtain ⟨d0, d1, d2, d3, d4, d5, d6, d7, d8, d9, d10, d11, d12, d13⟩ := poCells hS
  unfold poV
  go_enter Try.func10, Try.ntmps10
  go_wp2_with fail
  refine (HG _).out.mono ?_
  rintro e w1 ⟨rfl, hB⟩
  have hS1 := hS.below hB
  clear hB hS HG d0 d1 d2 d3 d4 d5 d6 d7 d8 d9 d10 d11 d12 d13
  obtain ⟨d0, d1, d2, d3, d4, d5, d6, d7, d8, d9, d10, d11, d12, d13⟩ := poCells hS1
  go_wp2_with fail
  refine (HR _ hS1.toBelow).out.mono ?_
  rintro e w2 ⟨rfl, hB⟩
  have hS2 := hS1.below hB
  clear hB hS1 HR d0 d1 d2 d3 d4 d5 d6 d7 d8 d9 d10 d11 d12 d13
  obtain ⟨d0, d1, d2, d3, d4, d5, d6, d7, d8, d9, d10, d11, d12, d13⟩ := poCells hS2
  have HB := Lib.hid hS2.toBelow
  clear hS2
  cases b1 <;> cases b2 <;> cases b3
  all_goals
    go_wp2_with fail
    go_ret
    exact ⟨rfl, HB.out⟩
theorem pGood_great (x : Po)
    (HG : ∀ w, Calls Try.prog 37 #[cfV x.c (.slice pp x.c.ps.length cp) (.slice pl x.c.ls.length cl)] w fun e w' => e = .returned (.bool true) ∧ Below w.heap.size w w') :
    Calls Try.prog 10 #[poV x (.slice pp x.c.ps.length cp) (.slice pl x.c.ls.length cl) (.slice pe x.ls.length ce) (.slice pk x.l.length ck)] w fun e w' => e = .returned (.bool false) ∧ Below w.heap.size w w' := by
  have HG := fun w => Lib.hid (HG w)
  have hS := (Own.start w).new (poO x (.slice pp x.c.ps.length cp) (.slice pl x.c.ls.length cl) (.slice pe x.ls.length ce) (.slice pk x.l.length ck))
  obtain ⟨d0, d1, d2, d3, d4, d5, d6, d7, d8, d9, d10, d11, d12, d13⟩ := poCells hS
  unfold poV
  go_enter Try.func10, Try.ntmps10
  go_wp2_with fail
  refine (HG _).out.mono ?_
  rintro e w1 ⟨rfl, hB⟩
  have HB := Lib.hid (hS.below hB).toBelow
  clear hB hS HG d0 d1 d2 d3 d4 d5 d6 d7 d8 d9 d10 d11 d12 d13
  go_wp2_with fail
  go_ret
  exact ⟨rfl, HB.out⟩
end
theorem PksAt.slice {v : Value} {l : List Pk} (h : PksAt w v l) : ∃ p cap, v = .slice p l.length cap := RowAt.slice h
theorem pGood_yes {x : Po} {vp vl ve vk : Value} (H : PoAt w x vp vl ve vk) (hg : GoodP x) :
    Calls Try.prog 10 #[poV x vp vl ve vk] w fun e w' => e = .returned (.bool true) ∧ Below w.heap.size w w' := by
  have hr := hg.rt
  have hwf := H.wd.wf (by have := hr.n1; omega) (by have := hr.n1; have := hr.ll; omega)
  have hp := H.p
  have hl := H.l
  obtain ⟨pp, cp, rfl⟩ := hp.slice
  obtain ⟨pl, cl, rfl⟩ := hl.slice
  obtain ⟨pe, ce, rfl⟩ := H.e.slice
  obtain ⟨pk, ck, rfl⟩ := PksAt.slice H.k
  have h2 := hg.l
  have h3 := hg.ls
  exact pGood_any x true true true (by omega) (by omega) (fun w => Great_no x.c (by have := hr.n1; omega) (by have := hr.n1; have := hr.ll; omega) w) (fun w' hb => by rw [← rtB_yes hr]; exact rRight_any x.c hwf (hp.stp hb) (hl.stp hb)) (by simp; omega) (by simp; omega)
theorem pGood_no {x : Po} {vp vl ve vk : Value} (H : PoAt w x vp vl ve vk) (hg : ¬ GoodP x) :
    Calls Try.prog 10 #[poV x vp vl ve vk] w fun e w' => e = .returned (.bool false) ∧ Below w.heap.size w w' := by
  have hp := H.p
  have hl := H.l
  have hm1 := H.wf.lm
  have hm2 := H.wf.lsm
  unfold maxLen at hm1 hm2
  have hwd := H.wd
  obtain ⟨pp, cp, rfl⟩ := hp.slice
  obtain ⟨pl, cl, rfl⟩ := hl.slice
  obtain ⟨pe, ce, rfl⟩ := H.e.slice
  obtain ⟨pk, ck, rfl⟩ := PksAt.slice H.k
  by_cases hlen : x.c.ps.length ≤ 100 ∧ x.c.ls.length ≤ 100
  · have hwf := hwd.wf hlen.1 hlen.2
    have h := pGood_any (w := w) (pp := pp) (pl := pl) (pe := pe) (pk := pk) (cp := cp) (cl := cl) (ce := ce) (ck := ck) x (rtB x.c) (decide ((x.l.length : Int) ≤ 40)) (decide ((x.ls.length : Int) ≤ 20)) (by omega) (by omega) (fun w => Great_no x.c hlen.1 hlen.2 w) (fun w' hb => rRight_any x.c hwf (hp.stp hb) (hl.stp hb)) rfl rfl
    have hf : (rtB x.c && decide ((x.l.length : Int) ≤ 40) && decide ((x.ls.length : Int) ≤ 20)) = false := by
      rw [Bool.eq_false_iff]
      intro ht
      simp only [Bool.and_eq_true, decide_eq_true_eq] at ht
      exact hg ⟨rtB_iff.1 ht.1.1, by omega, by omega⟩
    rw [hf] at h
    exact h
  · exact pGood_great x (fun w => Great_yes x.c hwd.pn hwd.ln (by omega) w)
def Po.v (x : Po) : Int := x.nd % (x.c.ps.length : Int)
def Po.k (x : Po) : Int := x.n % 1048576 + 1
def Po.s (x : Po) : Int := x.sp % x.c.st
set_option maxHeartbeats 1000000 in
theorem pOf_any {x : Po} {vp vl ve vk : Value} (H : PoAt w x vp vl ve vk) (hr : x.c.Rt) :
    Calls Try.prog 11 #[poV x vp vl ve vk] w fun e w' => e = .returned (.tuple #[.int .i64 x.v, .int .i64 x.k, .int .i64 x.s]) ∧ Below w.heap.size w w' := by
  obtain ⟨pp, cp, rfl⟩ := H.p.slice
  obtain ⟨pl, cl, rfl⟩ := H.l.slice
  obtain ⟨d0, d1⟩ := And.intro H.wf.d0 H.wf.d1
  obtain ⟨n0, n1⟩ := And.intro H.wf.n0 H.wf.n1
  obtain ⟨s0, s1⟩ := And.intro H.wf.s0 H.wf.s1
  have l0 := hr.n0
  have l1 := hr.n1
  obtain ⟨t0, t1⟩ := hr.sm
  obtain ⟨v, hv⟩ : ∃ v, v = x.v := ⟨_, rfl⟩
  obtain ⟨k, hk⟩ : ∃ k, k = x.k := ⟨_, rfl⟩
  obtain ⟨s, hs⟩ : ∃ s, s = x.s := ⟨_, rfl⟩
  rw [← hv, ← hk, ← hs]
  unfold Po.v at hv
  unfold Po.k at hk
  unfold Po.s at hs
  have e1 : x.nd.tmod (x.c.ps.length : Int) = v := by rw [hv]; exact Int.tmod_eq_emod_of_nonneg d0
  have e2 : x.n.tmod 1048576 = x.n % 1048576 := Int.tmod_eq_emod_of_nonneg n0
  have e3 : x.sp.tmod x.c.st = s := by rw [hs]; exact Int.tmod_eq_emod_of_nonneg s0
  have g1 : ¬ (x.c.ps.length : Int) = 0 := by omega
  have g2 : ¬ x.c.st = 0 := by omega
  have g3 : x.c.ps ≠ [] := by intro h; rw [h] at l0; simp at l0
  have HB := Lib.hid (fun q => (((Own.start w).alloc (poO x (.slice pp x.c.ps.length cp) (.slice pl x.c.ls.length cl) ve vk)).drewN q).toBelow)
  have hS := (Own.start w).new (poO x (.slice pp x.c.ps.length cp) (.slice pl x.c.ls.length cl) ve vk)
  obtain ⟨d0, d1, d2, d3, d4, d5, d6, d7, d8, d9, d10, d11, d12, d13⟩ := poCells hS
  have Hk := Lib.hid hk
  have Hv := Lib.hid hv
  have Hs := Lib.hid hs
  clear H hr hS hk hv hs
  unfold poV
  go_enter Try.func11, Try.ntmps11
  go_wp2_with fail
  go_quiet (fail)
  go_wp2_with fail
  (try simp only [Exit.inBlock, Exit.then])
  refine bodyPost_ret (by simp [results, Try.results11, go_sem]; try rfl) rfl ?_
  exact ⟨by rw [Hk.out], HB.out _⟩
theorem Po.v_bd {x : Po} (hr : x.c.Rt) : 0 ≤ x.v ∧ x.v < (x.c.ps.length : Int) := by
  have := hr.n0
  unfold Po.v
  exact ⟨Int.emod_nonneg _ (by omega), Int.emod_lt_of_pos _ (by omega)⟩
theorem Po.s_bd {x : Po} (hr : x.c.Rt) : 0 ≤ x.s ∧ x.s < x.c.st := by
  have := hr.sm
  unfold Sm at this
  unfold Po.s
  exact ⟨Int.emod_nonneg _ (by omega), Int.emod_lt_of_pos _ (by omega)⟩
theorem Po.k_bd {x : Po} : 1 ≤ x.k ∧ x.k ≤ 1048576 := by unfold Po.k; omega
/-- Where the node's words begin. -/
def Po.b (x : Po) : Nat := limN x.c x.v.toNat
def poR (x : Po) : Nat := min x.c.st.toNat x.ls.length
def poW (x : Po) : Nat → List Int
  | 0 => (freshW x.c x.c.ps.length).set (x.b + 1) x.av
  | k + 1 => (poW x k).set (x.b + 2 + k) (x.ls.getD k 0 % (x.c.le + 1))
theorem poW_len (x : Po) : ∀ k, (poW x k).length = sizeN x.c
  | 0 => by simp [poW, freshW_len]
  | k + 1 => by rw [poW, List.length_set, poW_len x k]
theorem Po.b_eq {x : Po} (hr : x.c.Rt) : lim x.c x.v = (x.b : Int) := by
  have := (Po.v_bd hr).1
  have e := limN_eq hr.sm x.v.toNat
  rw [Int.toNat_of_nonneg this] at e
  exact e
theorem Po.b_in {x : Po} (hr : x.c.Rt) : x.b + 6 + 2 * x.c.st.toNat ≤ sizeN x.c ∧ sizeN x.c ≤ 400 := by
  have h1 := Po.v_bd hr
  have h2 := (sizeN_eq hr).2
  refine ⟨?_, h2⟩
  have h3 := limN_mono (c := x.c) (a := x.v.toNat + 1) (b := x.c.ps.length) (by omega)
  have h4 : limN x.c (x.v.toNat + 1) = x.b + (6 + 2 * x.c.st.toNat) := by unfold Po.b limN; rw [Nat.succ_mul]
  unfold sizeN; omega
set_option maxHeartbeats 4000000 in
theorem pWords_any {x : Po} {vp vl ve vk : Value} (H : PoAt W x vp vl ve vk) (hg : GoodP x) (h : Own W NoF L w) :
    Calls Try.prog 39 #[poV x vp vl ve vk] w (RetRow W NoF L 3 1 (sizeN x.c) (intC (poW x (poR x)))) := by
  have hr := hg.rt
  have hO := pOf_any (H.stp h.toBelow) hr
  obtain ⟨pp, cp, rfl⟩ := H.p.slice
  obtain ⟨pl, cl, rfl⟩ := H.l.slice
  obtain ⟨pe, ce, rfl⟩ := H.e.slice
  have hb := Po.b_eq hr
  have hin := Po.b_in hr
  have hv := Po.v_bd hr
  have n1 := hr.n1
  have hle := hr.le
  unfold Bd at hle
  have hst := hr.sm
  have h1 := h.new (poO x (.slice pp x.c.ps.length cp) (.slice pl x.c.ls.length cl) (.slice pe x.ls.length ce) vk)
  have HO := fun w' hs => Lib.hid (pOf_any (w := w') (H.stp hs) hr)
  have HF := fun w L h => Lib.hid (rFresh_any (w0 := W) (F0 := NoF) (L := L) (w := w) (pp := pp) (cp := cp) (vl := .slice pl x.c.ls.length cl) x.c hr (fun w' h' => H.l.stp (Own.toBelow h')) h)
  have HA := fun w => Lib.hid (rAvail_q (pp := pp) (np := x.c.ps.length) (cp := cp) (pl := pl) (nl := x.c.ls.length) (cl := cl) x.c hst x.v hv.1 (by omega) w)
  have HL := fun k k0 k1 w => Lib.hid (rLease_q (pp := pp) (np := x.c.ps.length) (cp := cp) (pl := pl) (nl := x.c.ls.length) (cl := cl) x.c hst x.v hv.1 (by omega) k k0 k1 w)
  rw [hb] at HA HL
  have Hfl := Lib.hid (freshW_len x.c x.c.ps.length)
  have Hw0 := Lib.hid (show poW x 0 = (freshW x.c x.c.ps.length).set (x.b + 1) x.av from rfl)
  have Hws := Lib.hid (show ∀ k, poW x (k + 1) = (poW x k).set (x.b + 2 + k) (x.ls.getD k 0 % (x.c.le + 1)) from fun _ => rfl)
  have Hwl := Lib.hid (poW_len x)
  have HRd := Lib.hid (show poR x = min x.c.st.toNat x.ls.length from rfl)
  generalize freshW x.c x.c.ps.length = fw at *
  generalize poW x = pw at *
  generalize poR x = R at *
  generalize x.b = b at *
  generalize x.v = v at *
  generalize x.k = kk at *
  generalize x.s = ss at *
  generalize sizeN x.c = N at *
  have HE := fun (h0 : 0 < x.ls.length) => H.e.at h0
  have Hls := Lib.hid H.wf.ls
  obtain ⟨a0, a1⟩ := And.intro H.wf.a0 H.wf.a1
  have hls := hg.ls
  have H1 := Lib.hid h1
  obtain ⟨st0, st1⟩ := hst
  obtain ⟨d0, d1, d2, d3, d4, d5, d6, d7, d8, d9, d10, d11, d12, d13⟩ := poCells h1
  have hB1 := h1.toBelow
  unfold poV at hO HO ⊢
  clear h h1 hr H hg hO hb
  go_enter Try.func39, Try.ntmps39
  go_wp2_with fail
  refine (HO _ hB1).out.mono ?_
  rintro e w1 ⟨rfl, hB⟩
  have h2 := H1.out.below hB
  obtain ⟨B, hBd⟩ : ∃ B, B = w.heap.size := ⟨_, rfl⟩
  rw [← hBd] at h2 ⊢
  clear hB hB1 H1 HO d0 d1 d2 d3 d4 d5 d6 d7 d8 d9 d10 d11 d12 d13 hBd
  obtain ⟨d0, d1, d2, d3, d4, d5, d6, d7, d8, d9, d10, d11, d12, d13⟩ := poCells h2
  have HF1 := HF _ _ h2
  clear HF h2
  go_wp2_with fail
  refine HF1.out.mono ?_
  rintro e w2 ⟨m, rfl, hO⟩
  clear HF1 d0 d1 d2 d3 d4 d5 d6 d7 d8 d9 d10 d11 d12 d13
  obtain ⟨d0, d1, d2, d3, d4, d5, d6, d7, d8, d9, d10, d11, d12, d13⟩ := poCells hO.swap
  have HP := fun w h => Lib.hid (rPoke_at (w0 := W) (F0 := NoF) (L := blk B (poO x (.slice pp x.c.ps.length cp) (.slice pl x.c.ls.length cl) (.slice pe x.ls.length ce) vk) :: L) (w := w) (T := 40) (m := m) (l := []) (ws := fw) (i := b + 1) (j := (b : Int) + 1) (by omega) (d := x.av) (by rw [Hfl.out]; omega) h)
  have hO := hO.drew
  have hw1 : IntKind.i64.wrap x.av = x.av := IntWalk.i64_in _ (by omega)
  go_wp2_with fail
  go_region_held3 (fun w' => w'.cell? ⟨B, 0, none⟩ = some (.int .i64 x.c.th) ∧ w'.cell? ⟨B, 1, none⟩ = some (.int .i64 x.c.st) ∧ w'.cell? ⟨B, 2, none⟩ = some (.int .i64 x.c.ga) ∧ w'.cell? ⟨B, 3, none⟩ = some (.int .i64 x.c.le) ∧ w'.cell? ⟨B, 4, none⟩ = some (.int .i64 x.c.re) ∧ w'.cell? ⟨B, 5, none⟩ = some (.int .i64 x.c.ti) ∧ w'.cell? ⟨B, 6, none⟩ = some (.slice pp x.c.ps.length cp) ∧ w'.cell? ⟨B, 7, none⟩ = some (.slice pl x.c.ls.length cl) ∧ w'.cell? ⟨B, 11, none⟩ = some (.int .u32 x.av)) (go_keep) (first | (go_at_call 31; refine (HA _).out.mono ?_; rintro e w' ⟨rfl, hB⟩; have hO := Own.below (by with_reducible assumption) hB; obtain ⟨d0, d1, d2, d3, d4, d5, d6, d7, d8, d9, d10, d11, d12, d13⟩ := poCells hO.swap) | (go_at_call 46; refine (HP _ (by with_reducible assumption)).out.mono ?_; rintro e w' ⟨rfl, hO⟩; obtain ⟨d0, d1, d2, d3, d4, d5, d6, d7, d8, d9, d10, d11, d12, d13⟩ := poCells hO.swap))
  rw [← Hw0.out] at hO
  have HO1 := Lib.hid hO
  clear hO HP HA d0 d1 d2 d3 d4 d5 d6 d7 d8 d9 d10 d11 d12 d13 hw1
  go_wp2_with fail
  have hRst : (R : Int) ≤ x.c.st ∧ R ≤ x.ls.length := by have := HRd.out; omega
  go_loopw [7] (fun v7 wr => ∃ k : Nat, k ≤ R ∧ v7 = .int .i64 k ∧ Own W NoF (memA 40 m (pw k) [] :: blk B (poO x (.slice pp x.c.ps.length cp) (.slice pl x.c.ls.length cl) (.slice pe x.ls.length ce) vk) :: L) wr) (fun v7 _ => R - (intOf v7).toNat)
  case atStart => exact ⟨0, Nat.zero_le _, rfl, HO1.out⟩
  case round =>
    obtain ⟨k, hk, rfl, hO⟩ := hrel
    clear HO1
    obtain ⟨d0, d1, d2, d3, d4, d5, d6, d7, d8, d9, d10, d11, d12, d13⟩ := poCells hO.swap
    by_cases hlt : k < R
    · obtain ⟨be, oe, ce', he, hce⟩ := HE (by omega)
      injection he with he _ he2
      subst he he2
      have hbe : be < W.heap.size := World.block_lt_of_cell? W _ (hce k (by omega))
      have hck : ∀ w', Stp W w' → w'.cell? ⟨be, oe + k, none⟩ = some (.int .u32 (x.ls.getD k 0)) := fun w' hs => (Below.cell hs (p := ⟨be, oe + k, none⟩) hbe).trans (hce k (by omega))
      have hls2 := Hls.out k (by omega)
      have HLk := fun w => HL k (by omega) (by omega) w
      have HP := fun w h => Lib.hid (rPoke_at (w0 := W) (F0 := NoF) (L := blk B (poO x (.slice pp x.c.ps.length cp) (.slice pl x.c.ls.length cl) (.slice (some ⟨be, oe, none⟩) x.ls.length ce) vk) :: L) (w := w) (T := 40) (m := m) (l := []) (ws := pw k) (i := b + 2 + k) (j := (b : Int) + 1 + 1 + k) (by omega) (d := x.ls.getD k 0 % (x.c.le + 1)) (by rw [Hwl.out]; omega) h)
      have hx : (b : Int) + 1 + 1 + k = (b : Int) + 2 + k := by omega
      rw [hx] at HP
      clear hx
      have Hst := Lib.hid hck
      have e0 := hck _ hO.toBelow
      have g1 : decide ((k : Int) < x.c.st) = true := by simp; omega
      have g2 : decide ((k : Int) < (x.ls.length : Int)) = true := by simp; omega
      have g3 : (k : Int) < (x.ls.length : Int) := by omega
      have Hwsk := Lib.hid (Hws.out k)
      generalize x.ls.getD k 0 = y at *
      have hw1 : IntKind.i64.wrap y = y := IntWalk.i64_in _ (by omega)
      have hw2 : IntKind.i64.wrap (x.c.le + 1) = x.c.le + 1 := IntWalk.i64_in _ (by omega)
      have hw3 : y.tmod (x.c.le + 1) = y % (x.c.le + 1) := Int.tmod_eq_emod_of_nonneg hls2.1
      have hw4 : ¬ x.c.le + 1 = 0 := by omega
      have hO := hO.drew
      clear hce hck HE HL
      go_wp2_with fail
      go_region_held3 (fun w' => w'.cell? ⟨B, 0, none⟩ = some (.int .i64 x.c.th) ∧ w'.cell? ⟨B, 1, none⟩ = some (.int .i64 x.c.st) ∧ w'.cell? ⟨B, 2, none⟩ = some (.int .i64 x.c.ga) ∧ w'.cell? ⟨B, 3, none⟩ = some (.int .i64 x.c.le) ∧ w'.cell? ⟨B, 4, none⟩ = some (.int .i64 x.c.re) ∧ w'.cell? ⟨B, 5, none⟩ = some (.int .i64 x.c.ti) ∧ w'.cell? ⟨B, 6, none⟩ = some (.slice pp x.c.ps.length cp) ∧ w'.cell? ⟨B, 7, none⟩ = some (.slice pl x.c.ls.length cl) ∧ w'.cell? ⟨B, 12, none⟩ = some (.slice (some ⟨be, oe, none⟩) x.ls.length ce) ∧ w'.cell? ⟨be, oe + k, none⟩ = some (.int .u32 y)) (go_keep) (first | (go_at_call 66; refine (HLk _).out.mono ?_; rintro e w' ⟨rfl, hB⟩; have hO := Own.below (by with_reducible assumption) hB; obtain ⟨d0, d1, d2, d3, d4, d5, d6, d7, d8, d9, d10, d11, d12, d13⟩ := poCells hO.swap; have e0 := Hst.out _ hO.toBelow) | (go_at_call 46; refine (HP _ (by with_reducible assumption)).out.mono ?_; rintro e w' ⟨rfl, hO⟩; obtain ⟨d0, d1, d2, d3, d4, d5, d6, d7, d8, d9, d10, d11, d12, d13⟩ := poCells hO.swap; have e0 := Hst.out _ hO.toBelow))
      all_goals
        rw [← Hwsk.out] at hO
        have HO := Lib.hid hO
        clear hO
        go_wp2_with fail
        go_roundw
        case rel => exact ⟨k + 1, by omega, by go_num, HO.out⟩
        case measure => simp [intOf]; omega
    · obtain rfl : k = R := by omega
      obtain ⟨vw, vl', hM⟩ := hO.mem
      have c0 : wr.cell? ⟨m, 0, none⟩ = some vw := hM.cell (i := 0) rfl
      have HM := Lib.hid (hM.drop.under fun _ _ h => h.drop.drop)
      clear hM hO
      rw [Hwl.out] at HM
      by_cases hs : (k : Int) < x.c.st
      · have hR := HRd.out
        have g1 : decide ((k : Int) < x.c.st) = true := by simp; omega
        have g2 : decide ((k : Int) < (x.ls.length : Int)) = false := by simp; omega
        have g3 : decide (k < x.ls.length) = false := by simp; omega
        clear hR
        go_wp2_with fail
        go_ret
        exact ⟨_, rfl, HM.out⟩
      · have g1 : decide ((k : Int) < x.c.st) = false := by simp; omega
        go_wp2_with fail
        go_ret
        exact ⟨_, rfl, HM.out⟩
end Go.Proofs.Ytlkiadionpnijaa
