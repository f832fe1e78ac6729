/- The document's answer to layer 4: whether a setting is right. -/
import Derived.Test.YtnbifmkcdnfkhaaTreeEnd
import Derived.Deep.DeepCutAuto
namespace Go.Proofs.Ytnbifmkcdnfkhaa
open Go.ChangeShapes Go.WideShapes Go.ChangeAt Go.RowKit Go.Shelf
set_option linter.unusedVariables false
variable {w0 w w' : World} {F0 : Nat → Prop} {L : List Asn}
instance (n : Int) : Decidable (Pow n) := by unfold Pow; infer_instance
instance (i : Nat) (p : Int) : Decidable (okAt i p) := by unfold okAt; infer_instance
def inB (lo hi x : Int) : Bool := decide (lo ≤ x) && decide (x ≤ hi)
theorem inB_iff {lo hi x : Int} : inB lo hi x = true ↔ Bd lo hi x := by unfold inB Bd; simp
theorem inB_no {lo hi x : Int} : inB lo hi x = false ↔ ¬ Bd lo hi x := by rw [← inB_iff]; simp
theorem in_any (x lo hi : Int) (w : World) : Calls Try.prog 26 #[.int .i64 x, .int .i64 lo, .int .i64 hi] w fun e w' => e = .returned (.bool (inB lo hi x)) ∧ w = w' := by
  by_cases h1 : lo ≤ x
  · by_cases h2 : x ≤ hi
    · rw [inB_iff.2 ⟨h1, h2⟩]
      go_enter Try.func26, Try.ntmps26
      go_wp2
      go_ret
      exact ⟨rfl, rfl⟩
    · rw [inB_no.2 (fun h => h2 h.2)]
      have hF : decide (x ≤ hi) = false := by simp [h2]
      clear h2
      go_enter Try.func26, Try.ntmps26
      go_wp2
      go_ret
      exact ⟨rfl, rfl⟩
  · rw [inB_no.2 (fun h => h1 h.1)]
    have hF : decide (lo ≤ x) = false := by simp [h1]
    clear h1
    go_enter Try.func26, Try.ntmps26
    go_wp2
    go_ret
    exact ⟨rfl, rfl⟩
/-- What is asked of the numbers alone. -/
def preB (c : Cf) : Bool := inB 1 8 c.th && decide (Pow c.st) && inB 1 1048576 c.ga && inB 0 1048576 c.le && inB 1 8 c.re && inB 1 16 c.ti
theorem preB_iff {c : Cf} : preB c = true ↔ Bd 1 8 c.th ∧ Pow c.st ∧ Bd 1 1048576 c.ga ∧ Bd 0 1048576 c.le ∧ Bd 1 8 c.re ∧ Bd 1 16 c.ti := by
  unfold preB; simp only [Bool.and_eq_true, inB_iff, decide_eq_true_eq, and_assoc]
/-- What is asked of one node. -/
def nodeB (c : Cf) (i : Nat) : Bool := inB 0 1099511627776 (c.ls.getD i 0) && decide (okAt i (c.ps.getD i 0))
theorem nodeB_iff {c : Cf} {i : Nat} : nodeB c i = true ↔ Bd 0 1099511627776 (c.ls.getD i 0) ∧ okAt i (c.ps.getD i 0) := by
  unfold nodeB; simp only [Bool.and_eq_true, inB_iff, decide_eq_true_eq]
theorem rt_iff {c : Cf} : c.Rt ↔ preB c = true ∧ inB 1 12 c.ps.length = true ∧ c.ls.length = c.ps.length ∧ ∀ i, i < c.ps.length → nodeB c i = true := by
  constructor
  · intro h
    refine ⟨preB_iff.2 ⟨h.th, h.st, h.ga, h.le, h.re, h.ti⟩, inB_iff.2 ⟨by have := h.n0; omega, by have := h.n1; omega⟩, h.ll, fun i hi => nodeB_iff.2 ⟨h.lm i (by rw [h.ll]; exact hi), h.gr i hi⟩⟩
  · intro ⟨h1, h2, h3, h4⟩
    obtain ⟨a, b, cc, d, e, f⟩ := preB_iff.1 h1
    obtain ⟨g, g'⟩ := inB_iff.1 h2
    exact ⟨a, b, cc, d, e, f, by omega, by omega, fun i hi => (nodeB_iff.1 (h4 i hi)).2, h3, fun i hi => (nodeB_iff.1 (h4 i (by rw [← h3]; exact hi))).1⟩
def rtB (c : Cf) : Bool := preB c && inB 1 12 c.ps.length && decide (c.ls.length = c.ps.length) && (List.range c.ps.length).all (nodeB c)
theorem rtB_iff {c : Cf} : rtB c = true ↔ c.Rt := by
  rw [rt_iff]; unfold rtB
  simp only [Bool.and_eq_true, decide_eq_true_eq, List.all_eq_true, List.mem_range, and_assoc]
theorem rtB_yes {c : Cf} (h : c.Rt) : rtB c = true := rtB_iff.2 h
theorem rtB_no {c : Cf} (h : ¬ c.Rt) : rtB c = false := by rw [Bool.eq_false_iff]; exact fun h' => h (rtB_iff.1 h')
theorem ret_bool {a b : Bool} (h : a = b) : Ending.returned (.bool a) = .returned (.bool b) := by rw [h]
set_option maxRecDepth 100000 in
set_option maxHeartbeats 1000000 in
theorem rRight_any (c : Cf) (hw : c.Wf) {vp vl : Value} (hp : IntsAt w .i64 vp c.ps) (hl : IntsAt w .i64 vl c.ls) :
    Calls Try.prog 12 #[cfV c vp vl] w fun e w' => e = .returned (.bool (rtB c)) ∧ Below w.heap.size w w' := by
  obtain ⟨pp, cp, rfl⟩ := hp.slice
  obtain ⟨pl, cl, rfl⟩ := hl.slice
  have HP := Lib.hid hp
  have HL := Lib.hid hl
  have q0 := hw.pn
  have q1 := hw.ln
  have HW := Lib.hid hw
  have HO := Lib.hid ((Own.start w).new (cfO c (.slice pp c.ps.length cp) (.slice pl c.ls.length cl)))
  clear hp hl hw
  go_enter Try.func12, Try.ntmps12
  go_upto_region 1 with fail
  go_cut [51] (fun s wx => ∃ r : Bool, s = .bool r ∧ Hid (preB c = !r) ∧ wx = w.alloc (cfO c (.slice pp c.ps.length cp) (.slice pl c.ls.length cl)))
  case first =>
    go_wp2_with (go_at_call 26; refine (in_any _ _ _ _).mono ?_; rintro e w' ⟨rfl, rfl⟩)
    all_goals (go_meet; refine ⟨_, rfl, ?_, ?_⟩)
    all_goals first | rfl | (simp [cfO, *]; done) | (simp [Hid, preB, Pow, *]; done)
  case rest =>
    obtain ⟨r, rfl, hr, hw1⟩ := hcut
    have HO1 := Lib.hid (show Own w (fun _ => False) _ wc from by rw [hw1]; exact HO.out)
    clear hw1 HO
    have d6 : wc.cell? ⟨w.heap.size, 6, none⟩ = some (.slice pp c.ps.length cp) := HO1.out.cell (i := 6) rfl
    have d7 : wc.cell? ⟨w.heap.size, 7, none⟩ = some (.slice pl c.ls.length cl) := HO1.out.cell (i := 7) rfl
    cases r
    · have hpre : preB c = true := hr.out
      have HR := Lib.hid hpre
      clear hr
      by_cases hlen : inB 1 12 c.ps.length = true
      · have hbl := inB_iff.1 hlen
        by_cases hll : c.ls.length = c.ps.length
        · have HLL := Lib.hid hll
          have hF : ((c.ls.length : Int) != (c.ps.length : Int)) = false := by simp; omega
          obtain ⟨b, off, cap, he, hb⟩ := (HP.out.below HO1.out.toBelow).at (by have := hbl.1; omega)
          injection he with he1 he2 he3
          subst he1
          obtain ⟨b2, off2, cap2, he, hb2⟩ := (HL.out.below HO1.out.toBelow).at (by have := hbl.1; omega)
          injection he with he1 he4 he5
          subst he1
          have Hb := Lib.hid hb
          have Hb2 := Lib.hid hb2
          have hN1 : 1 ≤ c.ps.length := by have := hbl.1; omega
          have hN2 : c.ps.length ≤ 12 := by have := hbl.2; omega
          clear he2 he3 he4 he5 hb hb2 hll hbl HP HL
          go_wp2_with (go_at_call 26; refine (in_any _ _ _ _).mono ?_; rintro e w' ⟨rfl, rfl⟩)
          go_loop [3] (fun i => ∃ k : Nat, k ≤ c.ps.length ∧ i = .int .i64 k ∧ Hid (∀ j, j < k → nodeB c j = true)) (fun i => c.ps.length - (intOf i).toNat)
          case atStart => exact ⟨0, by omega, rfl, Lib.hid (fun j hj => by omega)⟩
          case round =>
            obtain ⟨k, hk, rfl, HK⟩ := hrel
            by_cases hlt : k < c.ps.length
            · have e1 : wc.cell? ⟨b, off + k, none⟩ = some (.int .i64 (c.ps.getD k 0)) := Hb.out k hlt
              have e2 : wc.cell? ⟨b2, off2 + k, none⟩ = some (.int .i64 (c.ls.getD k 0)) := Hb2.out k (by rw [HLL.out]; exact hlt)
              have hltl : k < c.ls.length := by have := HLL.out; omega
              by_cases hnd : nodeB c k = true
              · have HK2 := Lib.hid (show ∀ j, j < k + 1 → nodeB c j = true from fun j hj => by
                  rcases Nat.lt_or_eq_of_le (Nat.le_of_lt_succ hj) with h | rfl
                  · exact HK.out j h
                  · exact hnd)
                obtain ⟨n1, n2⟩ := nodeB_iff.1 hnd
                have hB1 := inB_iff.2 n1
                generalize c.ps.getD k 0 = z at *
                generalize c.ls.getD k 0 = y at *
                by_cases h0 : k = 0
                · have hF0 : ((k : Int) == 0) = true := by rw [h0]; rfl
                  have hF3 : decide (0 < (k : Int)) = false := by rw [h0]; rfl
                  have hF4 : (k : Int) ≤ 0 := by omega
                  obtain rfl : z = -1 := n2.1 h0
                  clear n1 n2 hnd h0
                  go_wp2_with (go_at_call 26; refine (in_any _ _ _ _).mono ?_; rintro e w' ⟨rfl, rfl⟩)
                  go_round
                  case rel => exact ⟨k + 1, by omega, by go_num, HK2⟩
                  case measure => simp [intOf]; omega
                · have hF0 : ((k : Int) == 0) = false := by rw [beq_eq_false_iff_ne]; omega
                  have hF4 : (0 : Int) < k := by omega
                  have hB2 := inB_iff.2 (n2.2 (by omega))
                  clear n1 n2 hnd h0
                  go_wp2_with (go_at_call 26; refine (in_any _ _ _ _).mono ?_; rintro e w' ⟨rfl, rfl⟩)
                  go_round
                  case rel => exact ⟨k + 1, by omega, by go_num, HK2⟩
                  case measure => simp [intOf]; omega
              · have HX := Lib.hid (rtB_no (c := c) (fun h => hnd ((rt_iff.1 h).2.2.2 k hlt)))
                by_cases n1 : Bd 0 1099511627776 (c.ls.getD k 0)
                · have n2 : ¬ okAt k (c.ps.getD k 0) := fun h => hnd (nodeB_iff.2 ⟨n1, h⟩)
                  have hB1 := inB_iff.2 n1
                  generalize c.ps.getD k 0 = z at *
                  generalize c.ls.getD k 0 = y at *
                  by_cases h0 : k = 0
                  · have hF0 : ((k : Int) == 0) = true := by rw [h0]; rfl
                    have hF3 : decide (0 < (k : Int)) = false := by rw [h0]; rfl
                    have hF4 : (k : Int) ≤ 0 := by omega
                    have hz : (z != -1) = true := by
                      rw [bne_iff_ne]; intro e; exact n2 ⟨fun _ => e, fun h => by omega⟩
                    clear n1 n2 hnd h0
                    go_wp2_with (go_at_call 26; refine (in_any _ _ _ _).mono ?_; rintro e w' ⟨rfl, rfl⟩)
                    go_ret
                    exact ⟨ret_bool HX.out.symm, HO1.out.toBelow⟩
                  · have hF0 : ((k : Int) == 0) = false := by rw [beq_eq_false_iff_ne]; omega
                    have hF4 : (0 : Int) < k := by omega
                    have hB2 := inB_no.2 (fun h : Bd 0 ((k : Int) - 1) z => n2 ⟨fun h => by omega, fun _ => h⟩)
                    clear n1 n2 hnd h0
                    go_wp2_with (go_at_call 26; refine (in_any _ _ _ _).mono ?_; rintro e w' ⟨rfl, rfl⟩)
                    go_ret
                    exact ⟨ret_bool HX.out.symm, HO1.out.toBelow⟩
                · have hB1 := inB_no.2 n1
                  generalize c.ps.getD k 0 = z at *
                  generalize c.ls.getD k 0 = y at *
                  clear n1 hnd
                  go_wp2_with (go_at_call 26; refine (in_any _ _ _ _).mono ?_; rintro e w' ⟨rfl, rfl⟩)
                  go_ret
                  exact ⟨ret_bool HX.out.symm, HO1.out.toBelow⟩
            · have HX := Lib.hid (rtB_yes (c := c) (rt_iff.2 ⟨HR.out, hlen, HLL.out, fun j hj => HK.out j (by omega)⟩))
              have hke : k = c.ps.length := by omega
              subst hke
              clear hlt
              go_wp2
              go_ret
              exact ⟨ret_bool HX.out.symm, HO1.out.toBelow⟩
        · have HX := Lib.hid (rtB_no (c := c) (fun h => hll (rt_iff.1 h).2.2.1))
          have hF : ((c.ls.length : Int) != (c.ps.length : Int)) = true := by simp; omega
          clear hll hbl
          go_wp2_with (go_at_call 26; refine (in_any _ _ _ _).mono ?_; rintro e w' ⟨rfl, rfl⟩)
          go_ret
          exact ⟨ret_bool HX.out.symm, HO1.out.toBelow⟩
      · have hlen : inB 1 12 c.ps.length = false := by simpa using hlen
        have HX := Lib.hid (rtB_no (c := c) (fun h => by have := (rt_iff.1 h).2.1; rw [hlen] at this; cases this))
        go_wp2_with (go_at_call 26; refine (in_any _ _ _ _).mono ?_; rintro e w' ⟨rfl, rfl⟩)
        go_ret
        exact ⟨ret_bool HX.out.symm, HO1.out.toBelow⟩
    · have hpre : preB c = false := hr.out
      clear hr
      have HX := Lib.hid (rtB_no (c := c) (fun h => by have := (rt_iff.1 h).1; rw [hpre] at this; cases this))
      go_wp2
      go_ret
      exact ⟨ret_bool HX.out.symm, HO1.out.toBelow⟩
end Go.Proofs.Ytnbifmkcdnfkhaa
