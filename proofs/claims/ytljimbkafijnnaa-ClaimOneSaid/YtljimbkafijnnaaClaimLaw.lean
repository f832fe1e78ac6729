/- The functions of breadlinelaw11: Good, words, pokes. Written by tools/gen_claimlaw.py. -/
import Derived.Test.YtljimbkafijnnaaPlanRef
import Derived.Test.YtljimbkafijnnaaConfRef
import Derived.Test.YtljimbkafijnnaaPoolLaw2
import Derived.Test.YtljimbkafijnnaaClaimMath
import Derived.Test.YtljimbkafijnnaaPokes
import Derived.Test.YtljimbkafijnnaaPlay
import Derived.Test.YtljimbkafijnnaaTreeLaw
import Derived.Deep.RegionLaw
import Derived.Deep.RegionHeld3
import Derived.BigQuiet
import Derived.Deep.QuietTactic
namespace Go.Proofs.Ytljimbkafijnnaa
open Go.ChangeShapes Go.WideShapes Go.ChangeAt Go.RowKit Go.Shelf
set_option linter.unusedVariables false
set_option linter.unusedSimpArgs false
set_option maxRecDepth 100000
variable {w0 w w' W : World} {F0 : Nat → Prop} {L : List Asn} {ws : List Int} {lg : List Acc}
structure GoodC (c : Cf) (n k : Nat) : Prop where
  rt : c.Rt
  l : n ≤ 40
  p : k ≤ 40
section
variable {pp pl pe pk : Option Addr} {cp cl ce ck : Nat}
set_option maxHeartbeats 1000000 in
theorem cGood_any (c : Cf) (n k : Nat) (b1 b2 b3 : Bool) (hn : n ≤ 9223372036854775807) (hk : k ≤ 9223372036854775807)
    (HG : ∀ w, Calls Try.prog 33 #[cfV c (.slice pp c.ps.length cp) (.slice pl c.ls.length cl)] w fun e w' => e = .returned (.bool false) ∧ Below w.heap.size w w')
    (HR : ∀ w', Stp w w' → Calls Try.prog 34 #[cfV c (.slice pp c.ps.length cp) (.slice pl c.ls.length cl)] w' fun e w'' => e = .returned (.bool b1) ∧ Below w'.heap.size w' w'')
    (h2 : decide ((n : Int) ≤ 40) = b2) (h3 : decide ((k : Int) ≤ 40) = b3) :
    Calls Try.prog 10 #[cfV c (.slice pp c.ps.length cp) (.slice pl c.ls.length cl), .slice pe n ce, .slice pk k ck] w fun e w' => e = .returned (.bool (b1 && b2 && b3)) ∧ Below w.heap.size w w' := by
  have HG := fun w => Lib.hid (HG w)
  have HR := fun w' h => Lib.hid (HR w' h)
  have hS := (Own.start w).new (cfO c (.slice pp c.ps.length cp) (.slice pl c.ls.length cl))
  obtain ⟨d0, d1, d2, d3, d4, d5, d6, d7⟩ := conf_cells hS
  go_enter Try.func10, Try.ntmps10
  go_wp2_with fail
  refine (HG _).out.mono ?_
  rintro e w1 ⟨rfl, hB⟩
  have hS1 := hS.below hB
  clear hB hS HG d0 d1 d2 d3 d4 d5 d6 d7
  obtain ⟨d0, d1, d2, d3, d4, d5, d6, d7⟩ := conf_cells hS1
  go_wp2_with fail
  refine (HR _ hS1.toBelow).out.mono ?_
  rintro e w2 ⟨rfl, hB⟩
  have hS2 := hS1.below hB
  clear hB hS1 HR d0 d1 d2 d3 d4 d5 d6 d7
  obtain ⟨d0, d1, d2, d3, d4, d5, d6, d7⟩ := conf_cells hS2
  have HB := Lib.hid hS2.toBelow
  clear hS2
  cases b1 <;> cases b2 <;> cases b3
  all_goals
    go_wp2_with fail
    go_ret
    exact ⟨rfl, HB.out⟩
theorem cGood_great (c : Cf) (ve vk : Value)
    (HG : ∀ w, Calls Try.prog 33 #[cfV c (.slice pp c.ps.length cp) (.slice pl c.ls.length cl)] w fun e w' => e = .returned (.bool true) ∧ Below w.heap.size w w') :
    Calls Try.prog 10 #[cfV c (.slice pp c.ps.length cp) (.slice pl c.ls.length cl), ve, vk] w fun e w' => e = .returned (.bool false) ∧ Below w.heap.size w w' := by
  have HG := fun w => Lib.hid (HG w)
  have hS := (Own.start w).new (cfO c (.slice pp c.ps.length cp) (.slice pl c.ls.length cl))
  obtain ⟨d0, d1, d2, d3, d4, d5, d6, d7⟩ := conf_cells hS
  go_enter Try.func10, Try.ntmps10
  go_wp2_with fail
  refine (HG _).out.mono ?_
  rintro e w1 ⟨rfl, hB⟩
  have HB := Lib.hid (hS.below hB).toBelow
  clear hB hS HG d0 d1 d2 d3 d4 d5 d6 d7
  go_wp2_with fail
  go_ret
  exact ⟨rfl, HB.out⟩
end
theorem cGood_yes {c : Cf} {vp vl : Value} {pe pk : Option Addr} {n k ce ck : Nat} (hwd : Wide c) (hp : IntsAt w .i64 vp c.ps) (hl : IntsAt w .i64 vl c.ls) (hg : GoodC c n k) :
    Calls Try.prog 10 #[cfV c vp vl, .slice pe n ce, .slice pk k ck] w fun e w' => e = .returned (.bool true) ∧ Below w.heap.size w w' := by
  have hr := hg.rt
  have hwf := hwd.wf (by have := hr.n1; omega) (by have := hr.n1; have := hr.ll; omega)
  obtain ⟨pp, cp, rfl⟩ := hp.slice
  obtain ⟨pl, cl, rfl⟩ := hl.slice
  have h2 := hg.l
  have h3 := hg.p
  exact cGood_any c n k true true true (by omega) (by omega) (fun w => Great_no c (by have := hr.n1; omega) (by have := hr.n1; have := hr.ll; omega) w) (fun w' hb => by rw [← rtB_yes hr]; exact rRight_any c hwf (hp.stp hb) (hl.stp hb)) (by simp; omega) (by simp; omega)
theorem cGood_no {c : Cf} {vp vl : Value} {pe pk : Option Addr} {n k ce ck : Nat} (hwd : Wide c) (hp : IntsAt w .i64 vp c.ps) (hl : IntsAt w .i64 vl c.ls) (hn : n ≤ 9223372036854775807) (hk : k ≤ 9223372036854775807) (hg : ¬ GoodC c n k) :
    Calls Try.prog 10 #[cfV c vp vl, .slice pe n ce, .slice pk k ck] w fun e w' => e = .returned (.bool false) ∧ Below w.heap.size w w' := by
  obtain ⟨pp, cp, rfl⟩ := hp.slice
  obtain ⟨pl, cl, rfl⟩ := hl.slice
  by_cases hlen : c.ps.length ≤ 100 ∧ c.ls.length ≤ 100
  · have hwf := hwd.wf hlen.1 hlen.2
    have h := cGood_any (w := w) (pp := pp) (pl := pl) (pe := pe) (pk := pk) (cp := cp) (cl := cl) (ce := ce) (ck := ck) c n k (rtB c) (decide ((n : Int) ≤ 40)) (decide ((k : Int) ≤ 40)) hn hk (fun w => Great_no c hlen.1 hlen.2 w) (fun w' hb => rRight_any c hwf (hp.stp hb) (hl.stp hb)) rfl rfl
    have hf : (rtB c && decide ((n : Int) ≤ 40) && decide ((k : Int) ≤ 40)) = false := by
      rw [Bool.eq_false_iff]
      intro ht
      simp only [Bool.and_eq_true, decide_eq_true_eq] at ht
      exact hg ⟨rtB_iff.1 ht.1.1, by omega, by omega⟩
    rw [hf] at h
    exact h
  · exact cGood_great c _ _ (fun w => Great_yes c hwd.pn hwd.ln (by omega) w)
/-- The law's words: so many tickets' states are laid. -/
def clW (c : Cf) (l : List Int) : Nat → List Int
  | 0 => freshW c c.ps.length
  | k + 1 => (clW c l k).set (limN c c.ps.length + 2 * k) (l.getD k 0)
def clR (c : Cf) (l : List Int) : Nat := min l.length c.ti.toNat
theorem clW_len (c : Cf) (l : List Int) : ∀ k, (clW c l k).length = sizeN c
  | 0 => freshW_len c _
  | k + 1 => by rw [clW, List.length_set, clW_len c l k]
def cpC (c : Cf) (st : Nat) : CP := ⟨limN c c.ps.length, c.ti.toNat, st⟩
theorem cpC_ok {c : Cf} (hr : c.Rt) (st : Nat) (h : st ≤ 1000) : (cpC c st).Ok := by
  have ht := hr.ti
  unfold Bd at ht
  exact ⟨by simp only [cpC]; omega, by simp only [cpC]; omega, h⟩
theorem tk_eq {c : Cf} (hr : c.Rt) : lim c c.ps.length = ((limN c c.ps.length : Nat) : Int) ∧ sizeN c = limN c c.ps.length + 2 * c.ti.toNat ∧ sizeN c ≤ 400 ∧ c.ti = ((c.ti.toNat : Nat) : Int) ∧ 1 ≤ c.ti.toNat ∧ c.ti.toNat ≤ 16 := by
  have ht := hr.ti
  unfold Bd at ht
  obtain ⟨z1, z2⟩ := sizeN_eq hr
  have hl := limN_eq hr.sm c.ps.length
  refine ⟨hl, rfl, by omega, by omega, by omega, by omega⟩

set_option maxHeartbeats 4000000 in
theorem cWords_any {c : Cf} {vp vl v : Value} {l : List Int} (hr : c.Rt) (hp : IntsAt W .i64 vp c.ps) (hl : IntsAt W .i64 vl c.ls) (hv : IntsAt W .i64 v l) (hll : l.length ≤ 40) (h : Own W NoF L w) :
    Calls Try.prog 11 #[cfV c vp vl, v] w (RetRow W NoF L 3 1 (sizeN c) (intC (clW c l (clR c l)))) := by
  obtain ⟨pp, cp, rfl⟩ := hp.slice
  obtain ⟨pl, cl, rfl⟩ := hl.slice
  obtain ⟨pv, cv, rfl⟩ := hv.slice
  obtain ⟨k1, k2, k3, k4, k5, k6⟩ := tk_eq hr
  have n1 := hr.n1
  have h1 := h.new (cfO c (.slice pp c.ps.length cp) (.slice pl c.ls.length cl))
  have HF := fun w L h => Lib.hid (rFresh_any (w0 := W) (F0 := NoF) (L := L) (w := w) (pp := pp) (cp := cp) (vl := .slice pl c.ls.length cl) c hr (fun w' h' => hl.stp (Own.toBelow h')) h)
  have HT := fun k k0 k1 w => Lib.hid (rTicket_q (pp := pp) (np := c.ps.length) (cp := cp) (pl := pl) (nl := c.ls.length) (cl := cl) c hr.sm n1 k k0 k1 w)
  rw [k1] at HT
  have Hw0 := Lib.hid (show clW c l 0 = freshW c c.ps.length from rfl)
  have Hws := Lib.hid (show ∀ k, clW c l (k + 1) = (clW c l k).set (limN c c.ps.length + 2 * k) (l.getD k 0) from fun _ => rfl)
  have Hwl := Lib.hid (clW_len c l)
  have HRd := Lib.hid (show clR c l = min l.length c.ti.toNat from rfl)
  have HE := fun (h0 : 0 < l.length) => hv.at h0
  have HK2 := Lib.hid k2
  have HK4 := Lib.hid k4
  clear k1 k2 k4 hp hl hv hr
  generalize freshW c c.ps.length = fw at *
  generalize clW c l = pw at *
  generalize clR c l = R at *
  generalize limN c c.ps.length = b at *
  generalize sizeN c = N at *
  generalize c.ti.toNat = TI at *
  have H1 := Lib.hid h1
  obtain ⟨d0, d1, d2, d3, d4, d5, d6, d7⟩ := conf_cells h1
  clear h h1
  go_enter Try.func11, Try.ntmps11
  have HF1 := HF _ _ H1.out
  obtain ⟨B, hBd⟩ : ∃ B, B = w.heap.size := ⟨_, rfl⟩
  rw [← hBd] at HF1 d0 d1 d2 d3 d4 d5 d6 d7
  clear HF H1
  go_wp2_with fail
  rw [← hBd]
  clear hBd
  refine HF1.out.mono ?_
  rintro e w2 ⟨m, rfl, hO⟩
  clear HF1 d0 d1 d2 d3 d4 d5 d6 d7
  rw [← Hw0.out] at hO
  have HO1 := Lib.hid hO
  clear hO
  go_wp2_with fail
  have hR2 : R ≤ TI ∧ R ≤ l.length := by have := HRd.out; omega
  go_loopw [6] (fun v6 wr => ∃ k : Nat, k ≤ R ∧ v6 = .int .i64 k ∧ Own W NoF (memA 35 m (pw k) [] :: blk B (cfO c (.slice pp c.ps.length cp) (.slice pl c.ls.length cl)) :: L) wr) (fun v6 _ => R - (intOf v6).toNat)
  case atStart => exact ⟨0, Nat.zero_le _, rfl, HO1.out⟩
  case round =>
    obtain ⟨k, hk, rfl, hO⟩ := hrel
    clear HO1
    obtain ⟨d0, d1, d2, d3, d4, d5, d6, d7⟩ := conf_cells hO.swap
    by_cases hlt : k < R
    · obtain ⟨be, oe, ce', he, hce⟩ := HE (by omega)
      injection he with he _ he2
      subst he he2
      have hbe : be < W.heap.size := World.block_lt_of_cell? W _ (hce k (by omega))
      have hck : ∀ w', Stp W w' → w'.cell? ⟨be, oe + k, none⟩ = some (.int .i64 (l.getD k 0)) := fun w' hs => (Below.cell hs (p := ⟨be, oe + k, none⟩) hbe).trans (hce k (by omega))
      have HTk := fun w => HT k (by omega) (by omega) w
      have HP := fun w h => Lib.hid (rPoke_at (w0 := W) (F0 := NoF) (L := blk B (cfO c (.slice pp c.ps.length cp) (.slice pl c.ls.length cl)) :: L) (w := w) (T := 35) (m := m) (l := []) (ws := pw k) (i := b + 2 * k) (j := (b : Int) + 2 * (k : Int)) (by omega) (d := l.getD k 0) (by rw [Hwl.out]; omega) h)
      have Hst := Lib.hid hck
      have e0 := hck _ hO.toBelow
      have g1 : decide ((k : Int) < c.ti) = true := by rw [HK4.out]; simp; omega
      have g2 : decide ((k : Int) < (l.length : Int)) = true := by simp; omega
      have g3 : (k : Int) < (l.length : Int) := by omega
      have Hwsk := Lib.hid (Hws.out k)
      generalize l.getD k 0 = y at *
      have hO := hO.drew
      clear hce hck HE HT
      go_wp2_with fail
      go_region_held3 (fun w' => w'.cell? ⟨B, 0, none⟩ = some (.int .i64 c.th) ∧ w'.cell? ⟨B, 1, none⟩ = some (.int .i64 c.st) ∧ w'.cell? ⟨B, 2, none⟩ = some (.int .i64 c.ga) ∧ w'.cell? ⟨B, 3, none⟩ = some (.int .i64 c.le) ∧ w'.cell? ⟨B, 4, none⟩ = some (.int .i64 c.re) ∧ w'.cell? ⟨B, 5, none⟩ = some (.int .i64 c.ti) ∧ w'.cell? ⟨B, 6, none⟩ = some (.slice pp c.ps.length cp) ∧ w'.cell? ⟨B, 7, none⟩ = some (.slice pl c.ls.length cl) ∧ w'.cell? ⟨be, oe + k, none⟩ = some (.int .i64 y)) (go_keep) (first | (go_at_call 27; refine (HTk _).out.mono ?_; rintro e w' ⟨rfl, hB⟩; have hO := Own.below (by with_reducible assumption) hB; obtain ⟨d0, d1, d2, d3, d4, d5, d6, d7⟩ := conf_cells hO.swap; have e0 := Hst.out _ hO.toBelow) | (go_at_call 36; refine (HP _ (by with_reducible assumption)).out.mono ?_; rintro e w' ⟨rfl, hO⟩; obtain ⟨d0, d1, d2, d3, d4, d5, d6, d7⟩ := conf_cells hO.swap; have e0 := Hst.out _ hO.toBelow))
      all_goals
        rw [← Hwsk.out] at hO
        have HO := Lib.hid hO
        clear hO
        go_wp2_with fail
        go_roundw
        case rel => exact ⟨k + 1, by omega, by go_num, HO.out⟩
        case measure => simp [intOf]; omega
    · obtain rfl : k = R := by omega
      obtain ⟨vw, vl', hM⟩ := hO.mem
      have c0 : wr.cell? ⟨m, 0, none⟩ = some vw := hM.cell (i := 0) rfl
      have HM := Lib.hid (hM.drop.under fun _ _ h => h.drop.drop)
      clear hM hO
      rw [Hwl.out] at HM
      by_cases hs : k < l.length
      · have hR := HRd.out
        have g2 : decide ((k : Int) < (l.length : Int)) = true := by simp; omega
        have g1 : decide ((k : Int) < c.ti) = false := by rw [HK4.out]; simp; omega
        clear hR
        go_wp2_with fail
        go_ret
        exact ⟨_, rfl, HM.out⟩
      · have g2 : decide ((k : Int) < (l.length : Int)) = false := by simp; omega
        go_wp2_with fail
        go_ret
        exact ⟨_, rfl, HM.out⟩

def pokeC (c : Cf) (q : Pk) : Pk := ⟨q.at_, (limN c c.ps.length : Int) + 2 * (q.w.natAbs % c.ti.toNat : Nat), q.x⟩
def poC (c : Cf) (l : List Pk) : List Pk := l.map (pokeC c)
theorem poC_len (c : Cf) (l : List Pk) : (poC c l).length = l.length := by simp [poC]
theorem poC_take (c : Cf) (l : List Pk) (k : Nat) (hk : k < l.length) : (poC c l).take (k + 1) = (poC c l).take k ++ [pokeC c (l.getD k default)] := by
  have h : k < (poC c l).length := by rw [poC_len]; exact hk
  rw [List.take_add_one, List.getElem?_eq_getElem h]
  simp [poC, List.getD, hk]
theorem abs_tmod (a : Int) (b : Nat) : a.tmod (b : Int) = if 0 ≤ a then ((a.natAbs % b : Nat) : Int) else -((a.natAbs % b : Nat) : Int) := by
  by_cases h : 0 ≤ a
  · rw [if_pos h, Int.tmod_eq_emod_of_nonneg h, Int.natCast_emod, Int.natAbs_of_nonneg h]
  · rw [if_neg h]
    have e : a = -((a.natAbs : Nat) : Int) := by omega
    have h2 : (((a.natAbs : Nat) : Int)).tmod (b : Int) = ((a.natAbs % b : Nat) : Int) := by rw [Int.tmod_eq_emod_of_nonneg (by omega), Int.natCast_emod]
    rw [← h2]
    conv => lhs; rw [e]
    rw [Int.neg_tmod]
set_option maxHeartbeats 8000000 in
theorem cPokes_any {c : Cf} {vp vl v : Value} {l : List Pk} (hr : c.Rt) (hp : IntsAt W .i64 vp c.ps) (hl : IntsAt W .i64 vl c.ls) (hv : PksAt W v l) (hll : l.length ≤ 40) (hwf : ∀ q ∈ l, I64 q.at_ ∧ I64 q.w ∧ I64 q.x) (h : Own W NoF L w) :
    Calls Try.prog 16 #[cfV c vp vl, v] w (RetRow W NoF L 88 3 (poC c l).length (pkC (poC c l))) := by
  obtain ⟨pp, cp, rfl⟩ := hp.slice
  obtain ⟨pl, cl, rfl⟩ := hl.slice
  obtain ⟨pk, ck, rfl⟩ := PksAt.slice hv
  obtain ⟨k1, k2, k3, k4, k5, k6⟩ := tk_eq hr
  have n1 := hr.n1
  have h1 := h.new (cfO c (.slice pp c.ps.length cp) (.slice pl c.ls.length cl))
  have HT := fun k k0 k1 w => Lib.hid (rTicket_q (pp := pp) (np := c.ps.length) (cp := cp) (pl := pl) (nl := c.ls.length) (cl := cl) c hr.sm n1 k k0 k1 w)
  rw [k1] at HT
  have HK := Lib.hid hv
  have HI := Lib.hid hwf
  have Hpk := Lib.hid (show ∀ q, pokeC c q = ⟨q.at_, (limN c c.ps.length : Int) + 2 * (q.w.natAbs % c.ti.toNat : Nat), q.x⟩ from fun _ => rfl)
  have Htk := Lib.hid (poC_take c l)
  have Hpl := Lib.hid (poC_len c l)
  have Hall := Lib.hid (show poC c l = (poC c l).take l.length by rw [← poC_len c, List.take_length])
  have HK4 := Lib.hid k4
  rw [Hpl.out, Hall.out]
  clear k1 k2 k4 hp hl hv hr hwf
  generalize poC c l = P at *
  generalize pokeC c = fP at *
  generalize limN c c.ps.length = b at *
  generalize hTI : c.ti.toNat = TI at *
  clear hTI
  have H1 := Lib.hid h1
  obtain ⟨i0, hi0, hz0, hz1, hz2⟩ := info_parts Try.info_pk
  obtain ⟨d0, d1, d2, d3, d4, d5, d6, d7⟩ := conf_cells h1
  clear h h1
  go_enter Try.func16, Try.ntmps16
  obtain ⟨B, hBd⟩ : ∃ B, B = w.heap.size := ⟨_, rfl⟩
  have H2 := Lib.hid (show Own W NoF (row (.slice none 0 0) 88 3 0 [] :: blk B (cfO c (.slice pp c.ps.length cp) (.slice pl c.ls.length cl)) :: L) (w.alloc (cfO c (.slice pp c.ps.length cp) (.slice pl c.ls.length cl))) from by rw [hBd]; exact H1.out.rowNil)
  clear H1
  rw [← hBd] at d0 d1 d2 d3 d4 d5 d6 d7
  go_wp2_with fail
  rw [← hBd]
  clear hBd d0 d1 d2 d3 d4 d5 d6 d7
  go_loopw [5, 6, 7] (fun v5 v6 v7 wr => ∃ k : Nat, k ≤ l.length ∧ v6 = .int .i64 k ∧ Own W NoF (row v5 88 3 k (pkC (P.take k)) :: blk B (cfO c (.slice pp c.ps.length cp) (.slice pl c.ls.length cl)) :: L) wr) (fun v5 v6 v7 _ => l.length - (intOf v6).toNat)
  case atStart => exact ⟨0, Nat.zero_le _, rfl, by simpa [pkC] using H2.out⟩
  case round =>
    obtain ⟨k, hk, rfl, hO⟩ := hrel
    clear H2
    obtain ⟨po, co, rfl⟩ := row_slice hO
    by_cases hlt : k < l.length
    · obtain ⟨b3, o3, e3, hb3, hc3⟩ := (HK.out).at (by rw [pkC_len]; omega) (by omega)
      have Hnx := Lib.hid (Htk.out k hlt)
      have hIq := HI.out (l.getD k default) (by simp [List.getD, hlt])
      obtain ⟨q, hq⟩ : ∃ q, q = l.getD k default := ⟨_, rfl⟩
      have e := fun i hi => pkC_get l k i hlt hi
      rw [← hq] at e Hnx hIq
      have Hfq := Lib.hid (Hpk.out q)
      obtain ⟨y0, y1, y2⟩ := q
      simp only at Hfq hIq
      obtain ⟨I0, I1, I2⟩ := hIq
      unfold I64 at I0 I1 I2
      have x0 : W.cell? ⟨b3, o3 + k * 3, none⟩ = some (.int .i64 y0) := hc3 (k * 3 + 0) _ (e 0 (by omega))
      have x1 : W.cell? ⟨b3, o3 + k * 3 + 1, none⟩ = some (.int .i64 y1) := hc3 (k * 3 + 1) _ (e 1 (by omega))
      have x2 : W.cell? ⟨b3, o3 + k * 3 + 2, none⟩ = some (.int .i64 y2) := hc3 (k * 3 + 2) _ (e 2 (by omega))
      have hbe : b3 < W.heap.size := World.block_lt_of_cell? W _ x0
      have Hst := Lib.hid (show ∀ w', Below W.heap.size W w' → w'.cell? ⟨b3, o3 + k * 3, none⟩ = some (.int .i64 y0) ∧ w'.cell? ⟨b3, o3 + k * 3 + 1, none⟩ = some (.int .i64 y1) ∧ w'.cell? ⟨b3, o3 + k * 3 + 2, none⟩ = some (.int .i64 y2) from fun w' hs => ⟨(Below.cell hs (p := ⟨b3, o3 + k * 3, none⟩) hbe).trans x0, (Below.cell hs (p := ⟨b3, o3 + k * 3 + 1, none⟩) hbe).trans x1, (Below.cell hs (p := ⟨b3, o3 + k * 3 + 2, none⟩) hbe).trans x2⟩)
      clear hc3 e hq HK HI Htk x0 x1 x2 hbe
      subst e3
      obtain ⟨x0, x1, x2⟩ := Hst.out _ hO.toBelow
      obtain ⟨d0, d1, d2, d3, d4, d5, d6, d7⟩ := conf_cells hO.swap
      have hkl : (k : Int) < (l.length : Int) := by omega
      obtain ⟨t, ht⟩ : ∃ t : Nat, y1.natAbs % TI = t := ⟨_, rfl⟩
      have ht1 : t < TI := by rw [← ht]; exact Nat.mod_lt _ (by omega)
      have hab := abs_tmod y1 TI
      rw [ht] at hab Hfq
      have hza : ((TI : Int) == 0) = false := by simp; omega
      have hzb : ¬ (TI : Int) = 0 := by omega
      have HTk := fun w => Lib.hid (HT t (by omega) (by omega) w).out
      rw [HK4.out] at d5
      have Htm : ∃ u : Int, y1.tmod (TI : Int) = u ∧ ((0 ≤ u ∧ u = t) ∨ (u < 0 ∧ -u = t)) := by
        refine ⟨_, rfl, ?_⟩
        rw [hab]; split <;> omega
      obtain ⟨u, hu, huc⟩ := Htm
      have HOd := Lib.hid (fun q => hO.drewN q)
      have l1 : k + 1 ≤ maxLen := by unfold maxLen; omega
      have l2 : (k + 1) * 24 ≤ 140737488355328 := by omega
      have Hnews := fun w' : World => Lib.hid (news_at w' [.int .i64 y0, .int .i64 ((b : Int) + 2 * (t : Int)), .int .i64 y2] 88 _ rfl)
      clear hO hab ht HT Hpk Hpl Hall I0 I1 I2
      go_wp2_with fail
      go_quiet (fail)
      have hO := HOd.out nq
      clear HOd x0 x1 x2 d0 d1 d2 d3 d4 d5 d6 d7
      generalize World.drewN wr nq = w3 at *
      have HO := Lib.hid hO
      have Hfin := Lib.hid (show ∀ v' w4, Own W NoF (row v' 88 3 (k + 1) (pkC (P.take k) ++ [.int .i64 y0, .int .i64 ((b : Int) + 2 * (t : Int)), .int .i64 y2]) :: blk B (cfO c (.slice pp c.ps.length cp) (.slice pl c.ls.length cl)) :: L) w4 → Own W NoF (row v' 88 3 (k + 1) (pkC (P.take (k + 1))) :: blk B (cfO c (.slice pp c.ps.length cp) (.slice pl c.ls.length cl)) :: L) w4 from fun v' w4 h => by
        rw [Hnx.out, Hfq.out]
        have hc : ∀ (l : List Pk) (a b c : Int), pkC (l ++ [⟨a, b, c⟩]) = pkC l ++ [.int .i64 a, .int .i64 b, .int .i64 c] := fun l a b c => by simp [pkC, Pk.cells]
        rw [hc]
        exact h)
      clear Hnx Hfq hu
      rcases huc with ⟨u0, hut⟩ | ⟨u0, hut⟩
      · subst hut
        have hO := HO.out.drew
        clear HO
        obtain ⟨x0, x1, x2⟩ := Hst.out _ hO.toBelow
        obtain ⟨d0, d1, d2, d3, d4, d5, d6, d7⟩ := conf_cells hO.swap
        go_wp2_with fail
        go_region_law (first | (refine step_append_row rfl (.tmp 26) (.tmp 41) 25 rfl 88 i0 _ Try.underlying25 hi0 hz0 hz1 hz2 rfl (by decide) (by simp [Act.eval]) (Own.alloc hM _) ⟨w6.heap.size, 0, none⟩ 1 1 [.int .i64 y0, .int .i64 ((b : Int) + 2 * (t : Int)), .int .i64 y2] (by simp [Act.eval]) rfl (Hnews _).out (by simp [Value.oneCell']) l1 l2 ?_; intro v' w7 hR hg hn2; obtain ⟨p', cp', rfl⟩ := row_slice hR; clear hg hn2) | (go_simp; go_at_call 27; with_reducible refine Calls.mono (Hid.out (HTk _)) ?_; rintro e w6 ⟨rfl, hB⟩; have hM := Own.below hO hB; obtain ⟨d0, d1, d2, d3, d4, d5, d6, d7⟩ := conf_cells hM.swap; obtain ⟨x0, x1, x2⟩ := Hst.out _ hM.toBelow))
        all_goals
          have HR := Lib.hid (Hfin.out _ _ hR)
          clear hR hM hO
          go_wp2_with fail
          go_roundw
          case rel => exact ⟨k + 1, by omega, by go_num, HR.out⟩
          case measure => simp [intOf]; omega
      · have hwu : IntKind.i64.wrap (-u) = (t : Int) := by rw [IntWalk.i64_in _ (by omega)]; exact hut
        clear hut
        have hO := HO.out.drew
        clear HO
        obtain ⟨x0, x1, x2⟩ := Hst.out _ hO.toBelow
        obtain ⟨d0, d1, d2, d3, d4, d5, d6, d7⟩ := conf_cells hO.swap
        go_wp2_with fail
        go_region_law (first | (refine step_append_row rfl (.tmp 26) (.tmp 41) 25 rfl 88 i0 _ Try.underlying25 hi0 hz0 hz1 hz2 rfl (by decide) (by simp [Act.eval]) (Own.alloc hM _) ⟨w6.heap.size, 0, none⟩ 1 1 [.int .i64 y0, .int .i64 ((b : Int) + 2 * (t : Int)), .int .i64 y2] (by simp [Act.eval]) rfl (Hnews _).out (by simp [Value.oneCell']) l1 l2 ?_; intro v' w7 hR hg hn2; obtain ⟨p', cp', rfl⟩ := row_slice hR; clear hg hn2) | (go_simp; go_at_call 27; with_reducible refine Calls.mono (Hid.out (HTk _)) ?_; rintro e w6 ⟨rfl, hB⟩; have hM := Own.below hO hB; obtain ⟨d0, d1, d2, d3, d4, d5, d6, d7⟩ := conf_cells hM.swap; obtain ⟨x0, x1, x2⟩ := Hst.out _ hM.toBelow))
        all_goals
          have HR := Lib.hid (Hfin.out _ _ hR)
          clear hR hM hO
          go_wp2_with fail
          go_roundw
          case rel => exact ⟨k + 1, by omega, by go_num, HR.out⟩
          case measure => simp [intOf]; omega
    · obtain rfl : k = l.length := by omega
      have HO := Lib.hid (hO.under fun _ _ h => h.drop)
      clear hO
      go_wp2_with fail
      go_ret
      exact ⟨_, rfl, HO.out⟩
end Go.Proofs.Ytljimbkafijnnaa
