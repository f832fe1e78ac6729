/- Texts of elder layers, one behind the other: ConfRef, PoolLaw, MemRef, PoolLaw2, PoolPL. -/
import Derived.Test.YtjfjjmlocgmicaaGreatD6
import Derived.Test.YtjfjjmlocgmicaaGreatD8
import Derived.Deep.DeepCutAuto
import Derived.BigQuiet
import Derived.Deep.QuietTactic
import Derived.Laws.StructEq
import Derived.StillTailTactics
section
namespace Go.Proofs.YtjfjjmlocgmicaaGreat
open Go.ChangeShapes Go.WideShapes Go.ChangeAt Go.RowKit Go.Shelf
set_option linter.unusedVariables false
variable {w0 w w' W : World} {F0 : Nat → Prop} {L : List Asn} {b : Nat} {c : Cf} {pp pl : Option Addr} {np nl cp cl : Nat} {vp vl : Value}
theorem in_any (x lo hi : Int) (w : World) : Calls Tryz.prog 76 #[.int .i64 x, .int .i64 lo, .int .i64 hi] w fun e w' => e = .returned (.bool (inB lo hi x)) ∧ w = w' := by
  by_cases h1 : lo ≤ x
  · by_cases h2 : x ≤ hi
    · rw [inB_iff.2 ⟨h1, h2⟩]
      go_enter Tryz.func76, Tryz.ntmps76
      go_wp2
      go_ret
      exact ⟨rfl, rfl⟩
    · rw [inB_no.2 (fun h => h2 h.2)]
      have hF : decide (x ≤ hi) = false := by simp [h2]
      clear h2
      go_enter Tryz.func76, Tryz.ntmps76
      go_wp2
      go_ret
      exact ⟨rfl, rfl⟩
  · rw [inB_no.2 (fun h => h1 h.1)]
    have hF : decide (lo ≤ x) = false := by simp [h1]
    clear h1
    go_enter Tryz.func76, Tryz.ntmps76
    go_wp2
    go_ret
    exact ⟨rfl, rfl⟩
set_option maxRecDepth 100000 in
set_option maxHeartbeats 1000000 in
theorem rRight_any (c : Cf) (hw : c.Wf) {vp vl : Value} (hp : IntsAt w .i64 vp c.ps) (hl : IntsAt w .i64 vl c.ls) :
    Calls Tryz.prog 37 #[cfV c vp vl] w fun e w' => e = .returned (.bool (rtB c)) ∧ Below w.heap.size w w' := by
  obtain ⟨pp, cp, rfl⟩ := hp.slice
  obtain ⟨pl, cl, rfl⟩ := hl.slice
  have HP := Lib.hid hp
  have HL := Lib.hid hl
  have q0 := hw.pn
  have q1 := hw.ln
  have HW := Lib.hid hw
  have HO := Lib.hid ((Own.start w).new (cfO c (.slice pp c.ps.length cp) (.slice pl c.ls.length cl)))
  clear hp hl hw
  go_enter Tryz.func37, Tryz.ntmps37
  go_upto_region 1 with fail
  go_cut [51] (fun s wx => ∃ r : Bool, s = .bool r ∧ Hid (preB c = !r) ∧ wx = w.alloc (cfO c (.slice pp c.ps.length cp) (.slice pl c.ls.length cl)))
  case first =>
    go_wp2_with (go_at_call 76; refine (in_any _ _ _ _).mono ?_; rintro e w' ⟨rfl, rfl⟩)
    all_goals (go_meet; refine ⟨_, rfl, ?_, ?_⟩)
    all_goals first | rfl | (simp [cfO, *]; done) | (simp [Hid, preB, Pow, *]; done)
  case rest =>
    obtain ⟨r, rfl, hr, hw1⟩ := hcut
    have HO1 := Lib.hid (show Own w (fun _ => False) _ wc from by rw [hw1]; exact HO.out)
    clear hw1 HO
    have d6 : wc.cell? ⟨w.heap.size, 6, none⟩ = some (.slice pp c.ps.length cp) := HO1.out.cell (i := 6) rfl
    have d7 : wc.cell? ⟨w.heap.size, 7, none⟩ = some (.slice pl c.ls.length cl) := HO1.out.cell (i := 7) rfl
    cases r
    · have hpre : preB c = true := hr.out
      have HR := Lib.hid hpre
      clear hr
      by_cases hlen : inB 1 12 c.ps.length = true
      · have hbl := inB_iff.1 hlen
        by_cases hll : c.ls.length = c.ps.length
        · have HLL := Lib.hid hll
          have hF : ((c.ls.length : Int) != (c.ps.length : Int)) = false := by simp; omega
          obtain ⟨b, off, cap, he, hb⟩ := (HP.out.below HO1.out.toBelow).at (by have := hbl.1; omega)
          injection he with he1 he2 he3
          subst he1
          obtain ⟨b2, off2, cap2, he, hb2⟩ := (HL.out.below HO1.out.toBelow).at (by have := hbl.1; omega)
          injection he with he1 he4 he5
          subst he1
          have Hb := Lib.hid hb
          have Hb2 := Lib.hid hb2
          have hN1 : 1 ≤ c.ps.length := by have := hbl.1; omega
          have hN2 : c.ps.length ≤ 12 := by have := hbl.2; omega
          clear he2 he3 he4 he5 hb hb2 hll hbl HP HL
          go_wp2_with (go_at_call 76; refine (in_any _ _ _ _).mono ?_; rintro e w' ⟨rfl, rfl⟩)
          go_loop [3] (fun i => ∃ k : Nat, k ≤ c.ps.length ∧ i = .int .i64 k ∧ Hid (∀ j, j < k → nodeB c j = true)) (fun i => c.ps.length - (intOf i).toNat)
          case atStart => exact ⟨0, by omega, rfl, Lib.hid (fun j hj => by omega)⟩
          case round =>
            obtain ⟨k, hk, rfl, HK⟩ := hrel
            by_cases hlt : k < c.ps.length
            · have e1 : wc.cell? ⟨b, off + k, none⟩ = some (.int .i64 (c.ps.getD k 0)) := Hb.out k hlt
              have e2 : wc.cell? ⟨b2, off2 + k, none⟩ = some (.int .i64 (c.ls.getD k 0)) := Hb2.out k (by rw [HLL.out]; exact hlt)
              have hltl : k < c.ls.length := by have := HLL.out; omega
              by_cases hnd : nodeB c k = true
              · have HK2 := Lib.hid (show ∀ j, j < k + 1 → nodeB c j = true from fun j hj => by
                  rcases Nat.lt_or_eq_of_le (Nat.le_of_lt_succ hj) with h | rfl
                  · exact HK.out j h
                  · exact hnd)
                obtain ⟨n1, n2⟩ := nodeB_iff.1 hnd
                have hB1 := inB_iff.2 n1
                generalize c.ps.getD k 0 = z at *
                generalize c.ls.getD k 0 = y at *
                by_cases h0 : k = 0
                · have hF0 : ((k : Int) == 0) = true := by rw [h0]; rfl
                  have hF3 : decide (0 < (k : Int)) = false := by rw [h0]; rfl
                  have hF4 : (k : Int) ≤ 0 := by omega
                  obtain rfl : z = -1 := n2.1 h0
                  clear n1 n2 hnd h0
                  go_wp2_with (go_at_call 76; refine (in_any _ _ _ _).mono ?_; rintro e w' ⟨rfl, rfl⟩)
                  go_round
                  case rel => exact ⟨k + 1, by omega, by go_num, HK2⟩
                  case measure => simp [intOf]; omega
                · have hF0 : ((k : Int) == 0) = false := by rw [beq_eq_false_iff_ne]; omega
                  have hF4 : (0 : Int) < k := by omega
                  have hB2 := inB_iff.2 (n2.2 (by omega))
                  clear n1 n2 hnd h0
                  go_wp2_with (go_at_call 76; refine (in_any _ _ _ _).mono ?_; rintro e w' ⟨rfl, rfl⟩)
                  go_round
                  case rel => exact ⟨k + 1, by omega, by go_num, HK2⟩
                  case measure => simp [intOf]; omega
              · have HX := Lib.hid (rtB_no (c := c) (fun h => hnd ((rt_iff.1 h).2.2.2 k hlt)))
                by_cases n1 : Bd 0 1099511627776 (c.ls.getD k 0)
                · have n2 : ¬ okAt k (c.ps.getD k 0) := fun h => hnd (nodeB_iff.2 ⟨n1, h⟩)
                  have hB1 := inB_iff.2 n1
                  generalize c.ps.getD k 0 = z at *
                  generalize c.ls.getD k 0 = y at *
                  by_cases h0 : k = 0
                  · have hF0 : ((k : Int) == 0) = true := by rw [h0]; rfl
                    have hF3 : decide (0 < (k : Int)) = false := by rw [h0]; rfl
                    have hF4 : (k : Int) ≤ 0 := by omega
                    have hz : (z != -1) = true := by
                      rw [bne_iff_ne]; intro e; exact n2 ⟨fun _ => e, fun h => by omega⟩
                    clear n1 n2 hnd h0
                    go_wp2_with (go_at_call 76; refine (in_any _ _ _ _).mono ?_; rintro e w' ⟨rfl, rfl⟩)
                    go_ret
                    exact ⟨ret_bool HX.out.symm, HO1.out.toBelow⟩
                  · have hF0 : ((k : Int) == 0) = false := by rw [beq_eq_false_iff_ne]; omega
                    have hF4 : (0 : Int) < k := by omega
                    have hB2 := inB_no.2 (fun h : Bd 0 ((k : Int) - 1) z => n2 ⟨fun h => by omega, fun _ => h⟩)
                    clear n1 n2 hnd h0
                    go_wp2_with (go_at_call 76; refine (in_any _ _ _ _).mono ?_; rintro e w' ⟨rfl, rfl⟩)
                    go_ret
                    exact ⟨ret_bool HX.out.symm, HO1.out.toBelow⟩
                · have hB1 := inB_no.2 n1
                  generalize c.ps.getD k 0 = z at *
                  generalize c.ls.getD k 0 = y at *
                  clear n1 hnd
                  go_wp2_with (go_at_call 76; refine (in_any _ _ _ _).mono ?_; rintro e w' ⟨rfl, rfl⟩)
                  go_ret
                  exact ⟨ret_bool HX.out.symm, HO1.out.toBelow⟩
            · have HX := Lib.hid (rtB_yes (c := c) (rt_iff.2 ⟨HR.out, hlen, HLL.out, fun j hj => HK.out j (by omega)⟩))
              have hke : k = c.ps.length := by omega
              subst hke
              clear hlt
              go_wp2
              go_ret
              exact ⟨ret_bool HX.out.symm, HO1.out.toBelow⟩
        · have HX := Lib.hid (rtB_no (c := c) (fun h => hll (rt_iff.1 h).2.2.1))
          have hF : ((c.ls.length : Int) != (c.ps.length : Int)) = true := by simp; omega
          clear hll hbl
          go_wp2_with (go_at_call 76; refine (in_any _ _ _ _).mono ?_; rintro e w' ⟨rfl, rfl⟩)
          go_ret
          exact ⟨ret_bool HX.out.symm, HO1.out.toBelow⟩
      · have hlen : inB 1 12 c.ps.length = false := by simpa using hlen
        have HX := Lib.hid (rtB_no (c := c) (fun h => by have := (rt_iff.1 h).2.1; rw [hlen] at this; cases this))
        go_wp2_with (go_at_call 76; refine (in_any _ _ _ _).mono ?_; rintro e w' ⟨rfl, rfl⟩)
        go_ret
        exact ⟨ret_bool HX.out.symm, HO1.out.toBelow⟩
    · have hpre : preB c = false := hr.out
      clear hr
      have HX := Lib.hid (rtB_no (c := c) (fun h => by have := (rt_iff.1 h).1; rw [hpre] at this; cases this))
      go_wp2
      go_ret
      exact ⟨ret_bool HX.out.symm, HO1.out.toBelow⟩
def RetBase (w0 : World) (F0 : Nat → Prop) (L : List Asn) (e : Ending) (w : World) : Prop :=
  ∃ g h : Nat, e = .returned (cfV baseC (rowAt g 4) (rowAt h 4)) ∧ Own w0 F0 (blk g (.cells #[.int .i64 (-1), .int .i64 0, .int .i64 1, .int .i64 0] 3 (0, 0)) :: blk h (.cells #[.int .i64 20, .int .i64 10, .int .i64 8, .int .i64 5] 3 (0, 0)) :: L) w
theorem Base_any (h : Own w0 F0 L w) : Calls Tryz.prog 46 #[] w (RetBase w0 F0 L) := by
  have h1 := ((h.alloc (cfO baseC (rowAt (w.heap.size + 1) 4) (rowAt (w.heap.size + 2) 4))).new (.cells #[.int .i64 (-1), .int .i64 0, .int .i64 1, .int .i64 0] 3)).new (.cells #[.int .i64 20, .int .i64 10, .int .i64 8, .int .i64 5] 3)
  rw [World.size_alloc, World.size_alloc] at h1
  have H := Lib.hid h1
  clear h h1
  go_enter Tryz.func46, Tryz.ntmps46
  go_wp2
  refine bodyPost_ret (v := cfV baseC (rowAt (w.heap.size + 1) 4) (rowAt (w.heap.size + 2) 4)) (by simp [results, Tryz.results46, go_sem, baseC, rowAt]) rfl ⟨_, _, rfl, H.out.swap⟩
theorem Great_yes (c : Cf) (hp : np ≤ 9223372036854775807) (hl : nl ≤ 9223372036854775807) (h : 100 < np ∨ 100 < nl) (w : World) :
    Calls Tryz.prog 36 #[cfV c (.slice pp np cp) (.slice pl nl cl)] w fun e w' => e = .returned (.bool true) ∧ Below w.heap.size w w' := by
  rcases (by omega : 100 < np ∨ (np ≤ 100 ∧ 100 < nl)) with h | ⟨h1, h⟩
  · go_enter Tryz.func36, Tryz.ntmps36
    go_wp2
    go_ret
    exact ⟨rfl, (Below.refl _ _).alloc (Nat.le_refl _) _⟩
  · have hF : decide (100 < (np : Int)) = false := by simp; omega
    have hF2 : decide (100 < (nl : Int)) = true := by simp; omega
    go_enter Tryz.func36, Tryz.ntmps36
    go_wp2
    go_ret
    exact ⟨rfl, (Below.refl _ _).alloc (Nat.le_refl _) _⟩
theorem Great_no (c : Cf) (h1 : np ≤ 100) (h2 : nl ≤ 100) (w : World) :
    Calls Tryz.prog 36 #[cfV c (.slice pp np cp) (.slice pl nl cl)] w fun e w' => e = .returned (.bool false) ∧ Below w.heap.size w w' := by
  have hF : decide (100 < (np : Int)) = false := by simp; omega
  have hF2 : decide (100 < (nl : Int)) = false := by simp; omega
  go_enter Tryz.func36, Tryz.ntmps36
  go_wp2
  go_ret
  exact ⟨rfl, (Below.refl _ _).alloc (Nat.le_refl _) _⟩
end Go.Proofs.YtjfjjmlocgmicaaGreat
end
section
namespace Go.Proofs.YtjfjjmlocgmicaaGreat
open Go.ChangeShapes Go.WideShapes Go.ChangeAt Go.RowKit Go.Shelf
set_option linter.unusedVariables false
set_option linter.unusedSimpArgs false
set_option maxRecDepth 100000
variable {w0 w w' W : World} {F0 : Nat → Prop} {L : List Asn} {T : TypeId} {m : Nat} {ws : List Int} {lg : List Acc}
structure GoodP (x : Po) : Prop where
  rt : x.c.Rt
  l : x.l.length ≤ 40
  ls : x.ls.length ≤ 20
structure PoAt (W : World) (x : Po) (vp vl ve vk : Value) : Prop where
  wd : Wide x.c
  wf : x.Wf
  p : IntsAt W .i64 vp x.c.ps
  l : IntsAt W .i64 vl x.c.ls
  e : IntsAt W .u32 ve x.ls
  k : PksAt W vk x.l
theorem PoAt.stp {x : Po} {vp vl ve vk : Value} (h : PoAt W x vp vl ve vk) (hb : Stp W w) : PoAt w x vp vl ve vk := ⟨h.wd, h.wf, h.p.stp hb, h.l.stp hb, h.e.stp hb, RowAt.below h.k hb⟩
section
variable {x : Po} {pp pl pe pk : Option Addr} {cp cl ce ck : Nat}
end
theorem PksAt.slice {v : Value} {l : List Pk} (h : PksAt w v l) : ∃ p cap, v = .slice p l.length cap := RowAt.slice h
def Po.v (x : Po) : Int := x.nd % (x.c.ps.length : Int)
def Po.k (x : Po) : Int := x.n % 1048576 + 1
def Po.s (x : Po) : Int := x.sp % x.c.st
theorem Po.v_bd {x : Po} (hr : x.c.Rt) : 0 ≤ x.v ∧ x.v < (x.c.ps.length : Int) := by
  have := hr.n0
  unfold Po.v
  exact ⟨Int.emod_nonneg _ (by omega), Int.emod_lt_of_pos _ (by omega)⟩
theorem Po.s_bd {x : Po} (hr : x.c.Rt) : 0 ≤ x.s ∧ x.s < x.c.st := by
  have := hr.sm
  unfold Sm at this
  unfold Po.s
  exact ⟨Int.emod_nonneg _ (by omega), Int.emod_lt_of_pos _ (by omega)⟩
def Po.b (x : Po) : Nat := limN x.c x.v.toNat
theorem Po.b_in {x : Po} (hr : x.c.Rt) : x.b + 6 + 2 * x.c.st.toNat ≤ sizeN x.c ∧ sizeN x.c ≤ 400 := by
  have h1 := Po.v_bd hr
  have h2 := (sizeN_eq hr).2
  refine ⟨?_, h2⟩
  have h3 := limN_mono (c := x.c) (a := x.v.toNat + 1) (b := x.c.ps.length) (by omega)
  have h4 : limN x.c (x.v.toNat + 1) = x.b + (6 + 2 * x.c.st.toNat) := by unfold Po.b limN; rw [Nat.succ_mul]
  unfold sizeN; omega
end Go.Proofs.YtjfjjmlocgmicaaGreat
end
section
namespace Go.Proofs.YtjfjjmlocgmicaaGreat
open Go.ChangeShapes Go.WideShapes Go.ChangeAt Go.RowKit Go.Shelf
set_option linter.unusedVariables false
variable {w0 w w' : World} {F0 : Nat → Prop} {L : List Asn} {T : TypeId} {m : Nat} {ws : List Int} {l : List Acc}
def LogAt (w : World) (v : Value) (l : List Acc) : Prop :=
  (l = [] ∧ ∃ p cap, v = .slice p 0 cap) ∨
  (0 < l.length ∧ ∃ b off cap, v = .slice (some ⟨b, off, none⟩) l.length cap ∧ b < w.heap.size ∧ ∀ j i, j < l.length → i < 5 → w.cell? ⟨b, off + j * 5 + i, none⟩ = (l.getD j ⟨0, 0, 0, 0, false⟩).cells[i]?)
theorem LogAt.slice {v : Value} (h : LogAt w v l) : ∃ p cap, v = .slice p l.length cap := by
  rcases h with ⟨rfl, p, cap, rfl⟩ | ⟨h0, b, off, cap, rfl, hlt, hc⟩ <;> exact ⟨_, _, rfl⟩
theorem LogAt.at {v : Value} (h : LogAt w v l) (h0 : 0 < l.length) : ∃ b off cap, v = .slice (some ⟨b, off, none⟩) l.length cap ∧ ∀ j i, j < l.length → i < 5 → w.cell? ⟨b, off + j * 5 + i, none⟩ = (l.getD j ⟨0, 0, 0, 0, false⟩).cells[i]? := by
  rcases h with ⟨rfl, p, cap, rfl⟩ | ⟨h0, b, off, cap, rfl, hlt, hc⟩
  · simp at h0
  · exact ⟨b, off, cap, rfl, hc⟩
end Go.Proofs.YtjfjjmlocgmicaaGreat
end
section
namespace Go.Proofs.YtjfjjmlocgmicaaGreat
open Go.ChangeShapes Go.WideShapes Go.ChangeAt Go.RowKit Go.Shelf
set_option linter.unusedVariables false
set_option linter.unusedSimpArgs false
set_option maxRecDepth 100000
variable {w0 w w' W : World} {F0 : Nat → Prop} {L : List Asn} {T : TypeId} {m : Nat} {ws : List Int} {lg : List Acc}
theorem pLaid_any {v : Value} (h0 : 0 < ws.length) (hn : ws.length ≤ 10000) (h : Own w0 F0 (row v 3 1 ws.length (intC ws) :: L) w) :
    Calls Tryz.prog 13 #[v] w fun e w' => ∃ m, e = .returned (.pointer (some ⟨m, 0, none⟩)) ∧ Own w0 F0 (memA 107 m ws [] :: row v 3 1 ws.length (intC ws) :: L) w' := by
  obtain ⟨p, cap, rfl⟩ := row_slice h
  have HN := Lib.hid (New_any ws.length hn h)
  have Hn := Lib.hid (lay_zero ws)
  have Hs := Lib.hid (lay_set ws)
  have Hl := Lib.hid (lay_len ws)
  have Ha := Lib.hid (lay_all ws)
  clear h
  go_enter Tryz.func13, Tryz.ntmps13
  go_wp2_with fail
  refine HN.out.mono ?_
  rintro e w1 ⟨ma, rfl, hO⟩
  have HO := Lib.hid hO
  clear HN hO
  go_wp2_with fail
  go_loopw [4] (fun v4 wr => ∃ k : Nat, k ≤ ws.length ∧ v4 = .int .i64 k ∧ Own w0 F0 (memA 107 ma (lay ws k) [] :: row (.slice p ws.length cap) 3 1 ws.length (intC ws) :: L) wr) (fun v4 _ => ws.length - (intOf v4).toNat)
  case atStart => exact ⟨0, Nat.zero_le _, rfl, by rw [Hn.out]; exact HO.out⟩
  case round =>
    obtain ⟨k, hk, rfl, hO⟩ := hrel
    by_cases hlt : k < ws.length
    · obtain ⟨b, off, cap', hv, hc⟩ := hO.swap.intsAt.at h0
      injection hv with hv _ hv1
      subst hv hv1
      have c0 := hc k hlt
      have HP := Lib.hid (Poke_yes k (ws.getD k 0) (by rw [Hl.out _ hk]; exact hlt) hO)
      rw [Hs.out k hlt] at HP
      generalize ws.getD k 0 = x at c0 HP
      clear hc hO HO
      go_wp2_with fail
      refine HP.out.mono ?_
      rintro e w2 ⟨rfl, hO⟩
      have HO := Lib.hid hO
      clear hO
      go_wp2_with fail
      go_roundw
      case rel => exact ⟨k + 1, by omega, by go_num, HO.out⟩
      case measure => simp [intOf]; omega
    · obtain rfl : k = ws.length := by omega
      rw [Ha.out] at hO
      have HO2 := Lib.hid hO
      clear hO HO
      go_wp2_with fail
      go_ret
      exact ⟨_, rfl, HO2.out⟩
end Go.Proofs.YtjfjjmlocgmicaaGreat
end
section
namespace Go.Proofs.YtjfjjmlocgmicaaGreat
open Go.ChangeShapes Go.WideShapes Go.ChangeAt Go.RowKit Go.Shelf
set_option linter.unusedVariables false
set_option linter.unusedSimpArgs false
set_option maxRecDepth 100000
variable {w0 w w' W : World} {F0 : Nat → Prop} {L : List Asn} {T : TypeId} {m : Nat} {ws : List Int} {lg : List Acc} {l : List Pk}
def Po.p (x : Po) : PP := ⟨x.b + 1, x.b + 2 + x.s.toNat, x.k, x.c.le⟩
def Po.S (x : Po) : Nat := x.c.st.toNat
theorem Po.S_eq {x : Po} (hr : x.c.Rt) : x.c.st = (x.S : Int) ∧ 1 ≤ x.S ∧ x.S ≤ 8 := by
  have := hr.sm
  unfold Sm at this
  unfold Po.S; omega
structure PL (x : Po) (B : Int) (ws : List Int) : Prop where
  len : ws.length = sizeN x.c
  wf : ∀ k, I64 (ws.getD k 0)
  a0 : 0 ≤ ws.getD (x.b + 1) 0
  a1 : ws.getD (x.b + 1) 0 ≤ B
  l : ∀ i, i < x.S → 0 ≤ ws.getD (x.b + 2 + i) 0 ∧ ws.getD (x.b + 2 + i) 0 ≤ x.c.le
theorem PL.pw {x : Po} {B : Int} (hr : x.c.Rt) (h : PL x B ws) : PW x.p B ws := by
  have h1 := Po.b_in hr
  have h2 := Po.S_eq hr
  have h3 := Po.s_bd hr
  have hlen := h.len
  have h4 := h.l x.s.toNat (by omega)
  unfold Po.S at *
  exact ⟨by simp only [Po.p]; omega, by simp only [Po.p]; omega, by omega, h.wf, h.a0, h.a1, h4.1, h4.2⟩
theorem PL.more {x : Po} {B B' : Int} (h : PL x B ws) (hB : B ≤ B') : PL x B' ws := ⟨h.len, h.wf, h.a0, by have := h.a1; omega, h.l⟩
theorem ans_refl (e n : Int) (x : Bool) (q : Int) (w : World) : (binOp .eql 54 (.agg #[.int .i64 e, .int .i64 n, .bool x, .int .i64 q]) (.agg #[.int .i64 e, .int .i64 n, .bool x, .int .i64 q])).run Tryz.prog w = .ok (.bool true) w := by
  rw [run_eql_struct]
  simp [go_sem]
end Go.Proofs.YtjfjjmlocgmicaaGreat
end
