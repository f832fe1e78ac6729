/- The adder, the live question, and MemCas. -/
import Derived.Test.YtlgobicbclihfaaPlay
import Derived.Test.YtlgobicbclihfaaMemRef2
namespace Go.Proofs.Ytlgobicbclihfaa
open Go.ChangeShapes Go.WideShapes Go.ChangeAt Go.RowKit Go.Shelf
set_option linter.unusedVariables false
variable {w0 w w' : World} {F0 : Nat → Prop} {L : List Asn}
structure Ad where
  w : Nat
  many : Nat
  last : Int
def adder (g : Nat) : Mach Ad where
  asn s := blk g (.cells #[.int .i64 s.w, .int .i64 s.many, .int .i64 s.last] 49 (0, 0))
  step s ws lg := if 0 < s.many then (⟨s.w, s.many - 1, wrap64 (ws.getD s.w 0 + 1)⟩, ws.set s.w (wrap64 (ws.getD s.w 0 + 1)), lg ++ [⟨2, s.w, 1, wrap64 (ws.getD s.w 0 + 1), false⟩], s.many - 1 == 0) else (s, ws, lg, true)
  ok s ws lg := s.w < ws.length ∧ s.many ≤ 300 ∧ lg.length + s.many ≤ 100000
theorem adder_steps (g m : Nat) (T : TypeId) : StepsBy w0 F0 (adder g) 68 (.pointer (some ⟨g, 0, none⟩)) T m := by
  intro L s ws lg w ⟨h1, h2, h3⟩ h
  have c0 : w.cell? ⟨g, 0, none⟩ = some (.int .i64 s.w) := h.cell (i := 0) rfl
  have c1 : w.cell? ⟨g, 1, none⟩ = some (.int .i64 s.many) := h.cell (i := 1) rfl
  by_cases hm : 0 < s.many
  · simp only [adder, if_pos hm] at h ⊢
    have HA := Lib.hid (Add_any s.w 1 h1 (by omega) h.swap)
    obtain ⟨k, hk⟩ : ∃ k, k = s.many - 1 := ⟨_, rfl⟩
    rw [← hk]
    have W1 : (s.many : Int) - 1 = (k : Int) := by omega
    have hk3 : k ≤ 300 := by omega
    generalize wrap64 (ws.getD s.w 0 + 1) = y at HA ⊢
    generalize s.w = sw at *
    have Hk := Lib.hid hk
    clear h h1 hk
    generalize s.many = sm at *
    have hF : ((k : Int) == 0) = (k == 0) := by
      by_cases h : k = 0
      · subst h; rfl
      · have : (k == 0) = false := by simp [h]
        rw [this, beq_eq_false_iff_ne]; omega
    go_enter Try.func68, Try.ntmps68
    go_wp2_with fail
    refine HA.out.mono ?_
    rintro e w1 ⟨rfl, hO⟩
    have d1 : w1.cell? ⟨g, 1, none⟩ = some (.int .i64 sm) := hO.swap.cell (i := 1) rfl
    have d2 : w1.cell? ⟨g, 2, none⟩ = some (.int .i64 s.last) := hO.swap.cell (i := 2) rfl
    have df : ∀ j, w1.frozen? ⟨g, j, none⟩ = false := fun j => hO.swap.unfrozen
    have HO := Lib.hid ((hO.swap.set 2 (.int .i64 y)).set 1 (.int .i64 k))
    clear HA hO c0 c1
    go_wp2_with fail
    go_ret
    exact ⟨rfl, HO.out⟩
  · have hm0 : s.many = 0 := by omega
    simp only [adder, if_neg hm] at h ⊢
    rw [hm0] at c1
    clear hm hm0 h1 h2 h3
    go_enter Try.func68, Try.ntmps68
    go_wp2_with fail
    go_ret
    exact ⟨rfl, h⟩
theorem adder_pk (g : Nat) (l : List Pk) : ∀ (s : Ad) (ws : List Int) (lg : List Acc) (t : Int), (adder g).ok s ws lg → (adder g).ok s (pokesAt t l ws) lg := by
  intro s ws lg t ⟨h1, h2, h3⟩
  exact ⟨by rw [pokesAt_len]; exact h1, h2, h3⟩
theorem adder_ok (g : Nat) : ∀ (s : Ad) (ws : List Int) (lg : List Acc), (adder g).ok s ws lg → ((adder g).step s ws lg).2.2.2 = false → (adder g).ok ((adder g).step s ws lg).1 ((adder g).step s ws lg).2.1 ((adder g).step s ws lg).2.2.1 := by
  intro s ws lg ⟨h1, h2, h3⟩ hb
  by_cases hm : 0 < s.many
  · simp only [adder, if_pos hm]
    exact ⟨by simpa using h1, by show s.many - 1 ≤ 300; omega, by simp; omega⟩
  · simp only [adder, if_neg hm] at hb
    cases hb
theorem adder_meth (g : Nat) : ∀ d w, (method (d + 2) 47 (.pointer (some ⟨g, 0, none⟩)) "Step").run Try.prog w = .ok (68, .pointer (some ⟨g, 0, none⟩)) w := fun d w => by kernel_rfl
theorem adder_enters : ∀ args w, (callFunc 68 args).run Try.prog w = .ok (.enter 68 args) w := enters_of Try.func68 (by kernel_rfl) rfl
theorem Adder_play (g m : Nat) (v : Value) (s : Ad) (ws : List Int) (lg : List Acc) (l : List Pk) (most : Int) (hl : l.length ≤ 1000000) (hv : PksAt w v l) (hm : most ≤ 100000) (h1 : s.w < ws.length) (h2 : s.many ≤ 300) (h3 : lg.length ≤ 90000)
    (h : Own w0 F0 (blk g (.cells #[.int .i64 s.w, .int .i64 s.many, .int .i64 s.last] 49 (0, 0)) :: memA 60 m ws lg :: L) w) :
    Calls Try.prog 20 #[.pointer (some ⟨m, 0, none⟩), .iface 47 (.pointer (some ⟨g, 0, none⟩)), v, .int .i64 most] w (PlayRet w0 F0 L (adder g) 60 m (playF (adder g) l most.toNat 0 s ws lg)) :=
  Play_any (adder g) 47 68 _ _ m v s ws lg l most hl hv hm (adder_meth g) adder_enters (adder_steps g m _) (adder_pk g l) (adder_ok g) ⟨h1, h2, by omega⟩ h
theorem head_play (g : Nat) : playF (adder g) [⟨2, 0, 40⟩] 9 0 ⟨0, 3, 0⟩ [0, 5, 9] [⟨3, 1, 5, 7, true⟩, ⟨3, 1, 5, 8, false⟩, ⟨2, 1, -2, 5, false⟩, ⟨4, 2, 9, 0, false⟩, ⟨1, 2, 9, 0, false⟩] =
    (3, true, ⟨0, 0, 41⟩, [41, 5, 9], [⟨3, 1, 5, 7, true⟩, ⟨3, 1, 5, 8, false⟩, ⟨2, 1, -2, 5, false⟩, ⟨4, 2, 9, 0, false⟩, ⟨1, 2, 9, 0, false⟩, ⟨2, 0, 1, 1, false⟩, ⟨2, 0, 1, 2, false⟩, ⟨2, 0, 1, 41, false⟩]) := by kernel_rfl
theorem head_any (h : Own w0 F0 L w) : Calls Try.prog 9 #[] w fun e w' => e = .returned (.bool true) ∧ Own w0 F0 L w' := by
  have h0 := h.size
  have H0 := Lib.hid (New_any 3 (by omega) h)
  clear h
  go_enter Try.func9, Try.ntmps9
  go_wp2_with fail
  refine H0.out.mono ?_
  rintro e w1 ⟨m, rfl, hO⟩
  have hO : Own w0 F0 (memA 60 m [0, 0, 0] [] :: L) w1 := hO
  have H1 := Lib.hid (Poke_yes 1 5 (by decide) hO)
  clear H0 hO
  go_wp2_with fail
  refine H1.out.mono ?_
  rintro e w2 ⟨rfl, hO⟩
  have hO : Own w0 F0 (memA 60 m [0, 5, 0] [] :: L) w2 := hO
  have H2 := Lib.hid (Cas_yes 1 5 7 (by decide) (by decide) (by decide) hO)
  clear H1 hO
  go_wp2_with fail
  refine H2.out.mono ?_
  rintro e w3 ⟨rfl, hO⟩
  have hO : Own w0 F0 (memA 60 m [0, 7, 0] [⟨3, 1, 5, 7, true⟩] :: L) w3 := hO
  have H3 := Lib.hid (Cas_no 1 5 8 (by decide) (by decide) (by decide) hO)
  clear H2 hO
  go_wp2_with fail
  refine H3.out.mono ?_
  rintro e w4 ⟨rfl, hO⟩
  have hO : Own w0 F0 (memA 60 m [0, 7, 0] [⟨3, 1, 5, 7, true⟩, ⟨3, 1, 5, 8, false⟩] :: L) w4 := hO
  have h4 := Add_any 1 (-2) (by decide) (by decide) hO
  rw [show wrap64 (([0, 7, 0] : List Int).getD 1 0 + -2) = 5 from by decide +kernel] at h4
  have H4 := Lib.hid h4
  clear H3 hO h4
  go_wp2_with fail
  refine H4.out.mono ?_
  rintro e w5 ⟨rfl, hO⟩
  have hO : Own w0 F0 (memA 60 m [0, 5, 0] [⟨3, 1, 5, 7, true⟩, ⟨3, 1, 5, 8, false⟩, ⟨2, 1, -2, 5, false⟩] :: L) w5 := hO
  have H5 := Lib.hid (Store_any 2 9 (by decide) (by decide) hO)
  clear H4 hO
  go_wp2_with fail
  refine H5.out.mono ?_
  rintro e w6 ⟨rfl, hO⟩
  have hO : Own w0 F0 (memA 60 m [0, 5, 9] [⟨3, 1, 5, 7, true⟩, ⟨3, 1, 5, 8, false⟩, ⟨2, 1, -2, 5, false⟩, ⟨4, 2, 9, 0, false⟩] :: L) w6 := hO
  have H6 := Lib.hid (Load_any 2 (by decide) (by decide) hO)
  clear H5 hO
  go_wp2_with fail
  refine H6.out.mono ?_
  rintro e w7 ⟨rfl, hO⟩
  have hO : Own w0 F0 (memA 60 m [0, 5, 9] [⟨3, 1, 5, 7, true⟩, ⟨3, 1, 5, 8, false⟩, ⟨2, 1, -2, 5, false⟩, ⟨4, 2, 9, 0, false⟩, ⟨1, 2, 9, 0, false⟩] :: L) w7 := hO
  have hO2 := (hO.new (.cells #[.int .i64 0, .int .i64 3, .int .i64 0] 49)).alloc (.cells #[.int .i64 2, .int .i64 0, .int .i64 40] 52)
  have H7 := Lib.hid (Adder_play w7.heap.size m (.slice (some ⟨w7.heap.size + 1, 0, none⟩) 1 1) ⟨0, 3, 0⟩ [0, 5, 9] _ [⟨2, 0, 40⟩] 9 (by decide) (Or.inr ⟨_, 1, rfl, news_at _ [.int .i64 2, .int .i64 0, .int .i64 40] _ _ (by simp)⟩) (by decide) (by decide) (by decide) (by decide) hO2)
  rw [show (9 : Int).toNat = 9 from rfl, head_play] at H7
  clear H6 hO hO2
  go_wp2_with fail
  refine H7.out.mono ?_
  rintro e w8 ⟨rfl, hO⟩
  simp only [adder] at hO
  obtain ⟨g, hg⟩ : ∃ g, g = w7.heap.size := ⟨_, rfl⟩
  rw [← hg] at hO ⊢
  have Hg := Lib.hid hg
  clear hg H7
  have HL := Lib.hid (Len_any hO.swap)
  have c2 : w8.cell? ⟨g, 2, none⟩ = some (.int .i64 41) := hO.cell (i := 2) rfl
  have H8 := Lib.hid (Words_any (by decide) hO.swap)
  clear hO
  go_wp2_with fail
  refine HL.out.mono ?_
  rintro e w' ⟨rfl, rfl⟩
  go_wp2_with fail
  refine H8.out.mono ?_
  rintro e w9 ⟨v, rfl, hO⟩
  have H9 := Lib.hid (SameInts_yes (hO.alloc (.cells #[.int .i64 41, .int .i64 5, .int .i64 9] 3)).intsAt (Or.inr ⟨by decide, w9.heap.size, 0, 3, rfl, by simp, fun j hj => by
      have := World.cell?_alloc_new w9 #[.int .i64 41, .int .i64 5, .int .i64 9] 3 j
      rw [Nat.zero_add, this]
      match j, hj with
      | 0, _ => rfl
      | 1, _ => rfl
      | 2, _ => rfl⟩) (by decide))
  have HO := Lib.hid hO
  clear H8 HL hO c2
  go_wp2_with fail
  refine H9.out.mono ?_
  rintro e w10 ⟨rfl, hD⟩
  have hO := (HO.out.alloc (.cells #[.int .i64 41, .int .i64 5, .int .i64 9] 3)).below hD.below
  have H10 := Lib.hid (Log_any (by decide) hO.swap)
  clear H9 HO hO hD
  go_wp2_with fail
  refine H10.out.mono ?_
  rintro e w11 ⟨v2, rfl, hO⟩
  obtain ⟨p2, c2, rfl⟩ := row_slice hO
  clear H10
  go_wp2_with fail
  go_ret
  exact ⟨rfl, hO.drop.drop.drop.drop⟩
end Go.Proofs.Ytlgobicbclihfaa
