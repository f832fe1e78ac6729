/- Which words are whose, one by one: breadlinelaw05.owners tells 0, 1, 2 .. in order. Written by tools/gen_planown.py. -/
import Derived.Test.YtnpjafiedbigaaaPlanHead
import Derived.Test.YtnpjafiedbigaaaRowMore
namespace Go.Proofs.Ytnpjafiedbigaaa
open Go.ChangeShapes Go.WideShapes Go.ChangeAt Go.RowKit Go.Shelf
set_option linter.unusedVariables false
variable {w0 w w' W : World} {F0 : Nat → Prop} {L : List Asn} {pp pl : Option Addr} {np cp nl cl : Nat}
/-- 0, 1, .. -/
def rng (n : Nat) : List Int := (List.range n).map fun i : Nat => (i : Int)
theorem rng_len (n : Nat) : (rng n).length = n := by simp [rng]
theorem rng_next (n : Nat) : rng (n + 1) = rng n ++ [(n : Int)] := by simp [rng, List.range_succ]
theorem rng_two (n : Nat) : intC (rng (n + 2)) = intC (rng n) ++ [.int .i64 n, .int .i64 ((n + 1 : Nat) : Int)] := by
  rw [rng_next, rng_next]; simp [intC]
theorem rng_one (n : Nat) : intC (rng (n + 1)) = intC (rng n) ++ [.int .i64 n] := by rw [rng_next]; simp [intC]
theorem rng_get {n i : Nat} (h : i < n) : (rng n).getD i 0 = (i : Int) := by simp [rng, List.getD, h]
set_option maxRecDepth 100000 in
set_option maxHeartbeats 4000000 in
theorem owners_any (c : Cf) (hr : c.Rt) (h : Own w0 F0 L w) :
    Calls Try.prog 28 #[cfV c (.slice pp c.ps.length cp) (.slice pl c.ls.length cl)] w (RetRow w0 F0 L 3 1 (sizeN c) (intC (rng (sizeN c)))) := by
  have hn0 := hr.n0
  have hn1 := hr.n1
  have hs := hr.sm
  have ht := hr.ti
  unfold Bd at ht
  obtain ⟨t0, t1⟩ := ht
  have hsz := (sizeN_eq hr).2
  have HM := Lib.hid (fun (a b : Nat) (h : a ≤ b) => limN_mono (c := c) h)
  have HE := Lib.hid (fun k => limN_eq hs k)
  have HX := Lib.hid (fun k => show limN c (k + 1) = limN c k + (6 + 2 * c.st.toNat) by unfold limN; rw [Nat.succ_mul])
  have HZ := Lib.hid (show sizeN c = limN c c.ps.length + 2 * c.ti.toNat from rfl)
  obtain ⟨s0, s1⟩ := hs
  obtain ⟨i0, hi0, hz0, hz1, hz2⟩ := info_parts Try.info_int
  have h1 : Own w0 F0 (row (.slice none 0 0) 3 1 0 (intC (rng 0)) :: blk w.heap.size (cfO c (.slice pp c.ps.length cp) (.slice pl c.ls.length cl)) :: L) (w.alloc (cfO c (.slice pp c.ps.length cp) (.slice pl c.ls.length cl))) := Own.rowNil (h.new (cfO c (.slice pp c.ps.length cp) (.slice pl c.ls.length cl)))
  have H1 := Lib.hid h1
  clear h h1 hr
  go_enter Try.func28, Try.ntmps28
  go_wp2_with fail
  go_loopw [3, 4] (fun o i wr => ∃ (k : Nat) (n : Nat) (p : Option Addr) (q : Nat), k ≤ c.ps.length ∧ i = .int .i64 k ∧ n = limN c k ∧ o = .slice p n q ∧ Own w0 F0 (row (.slice p n q) 3 1 n (intC (rng n)) :: blk w.heap.size (cfO c (.slice pp c.ps.length cp) (.slice pl c.ls.length cl)) :: L) wr) (fun _ i _ => c.ps.length - (intOf i).toNat)
  case atStart => exact ⟨0, 0, none, 0, Nat.zero_le _, rfl, by simp [limN], rfl, H1.out⟩
  case round =>
    obtain ⟨k, n, p, q, hk, rfl, hn, rfl, hO⟩ := hrel
    obtain ⟨d0, d1, d2, d3, d4, d5, d6, d7⟩ := conf_cells hO.swap
    have hl := HE.out k
    have hx := HX.out k
    by_cases hlt : k < c.ps.length
    · have hup : limN c (k + 1) ≤ limN c c.ps.length := HM.out _ _ hlt
      have hz := HZ.out
      have m1 : n + 2 ≤ maxLen := by unfold maxLen; omega
      have m2 : (n + 2) * 8 ≤ 140737488355328 := by omega
      have Q1 := fun w => Lib.hid (show Calls Try.prog 11 #[.agg #[.int .i64 c.th, .int .i64 c.st, .int .i64 c.ga, .int .i64 c.le, .int .i64 c.re, .int .i64 c.ti, .slice pp c.ps.length cp, .slice pl c.ls.length cl], .int .i64 k] w (fun e w' => e = .returned (.int .i64 ((n : Int))) ∧ Below w.heap.size w w') from by rw [hn, ← hl]; exact Limit_q (pp := pp) (np := c.ps.length) (cp := cp) (pl := pl) (nl := c.ls.length) (cl := cl) c ⟨s0, s1⟩ k (by omega) (by omega) w)
      have Q2 := fun w => Lib.hid (show Calls Try.prog 13 #[.agg #[.int .i64 c.th, .int .i64 c.st, .int .i64 c.ga, .int .i64 c.le, .int .i64 c.re, .int .i64 c.ti, .slice pp c.ps.length cp, .slice pl c.ls.length cl], .int .i64 k] w (fun e w' => e = .returned (.int .i64 (((n + 1 : Nat) : Int))) ∧ Below w.heap.size w w') from by rw [show ((n + 1 : Nat) : Int) = lim c k + 1 by omega]; exact Avail_q (pp := pp) (np := c.ps.length) (cp := cp) (pl := pl) (nl := c.ls.length) (cl := cl) c ⟨s0, s1⟩ k (by omega) (by omega) w)
      have HT := Lib.hid (rng_two n)
      have hOd := hO.drew
      have HN := Lib.hid hn
      have hn400 : n ≤ 400 := by omega
      clear hO hl hx hup hz hn
      go_wp2_with fail
      go_region_held3 (fun w' => w'.cell? ⟨w.heap.size, 0, none⟩ = some (.int .i64 c.th) ∧ w'.cell? ⟨w.heap.size, 1, none⟩ = some (.int .i64 c.st) ∧ w'.cell? ⟨w.heap.size, 2, none⟩ = some (.int .i64 c.ga) ∧ w'.cell? ⟨w.heap.size, 3, none⟩ = some (.int .i64 c.le) ∧ w'.cell? ⟨w.heap.size, 4, none⟩ = some (.int .i64 c.re) ∧ w'.cell? ⟨w.heap.size, 5, none⟩ = some (.int .i64 c.ti) ∧ w'.cell? ⟨w.heap.size, 6, none⟩ = some (.slice pp c.ps.length cp) ∧ w'.cell? ⟨w.heap.size, 7, none⟩ = some (.slice pl c.ls.length cl)) (go_keep) (first | (go_at_call 11; refine (Q1 _).out.mono ?_; rintro e w' ⟨rfl, hB⟩; have hO := Own.below (by with_reducible assumption) hB; obtain ⟨d0, d1, d2, d3, d4, d5, d6, d7⟩ := conf_cells hO.swap) | (go_at_call 13; refine (Q2 _).out.mono ?_; rintro e w' ⟨rfl, hB⟩; have hO := Own.below (by with_reducible assumption) hB; obtain ⟨d0, d1, d2, d3, d4, d5, d6, d7⟩ := conf_cells hO.swap) | (refine step_append_row rfl (.tmp 15) (.tmp 22) 22 rfl 3 i0 _ Try.underlying22 hi0 hz0 hz1 hz2 rfl (by decide) (by simp [Act.eval]) (hO.alloc (.cells #[.int .i64 n, .int .i64 ((n + 1 : Nat) : Int)] 3)) ⟨w'.heap.size, 0, none⟩ 2 2 [.int .i64 n, .int .i64 ((n + 1 : Nat) : Int)] (by simp [Act.eval]) rfl (news_at w' [.int .i64 n, .int .i64 ((n + 1 : Nat) : Int)] _ _ rfl) (by simp [Value.oneCell']) m1 m2 ?_; intro v' wA hO hg hn; obtain ⟨p', q', rfl⟩ := row_slice hO; obtain ⟨d0, d1, d2, d3, d4, d5, d6, d7⟩ := conf_cells hO.swap))
      all_goals
        have hP : Own w0 F0 (row (.slice p' (n + 2) q') 3 1 (n + 2) (intC (rng (n + 2))) :: blk w.heap.size (cfO c (.slice pp c.ps.length cp) (.slice pl c.ls.length cl)) :: L) wA := by rw [HT.out]; exact hO
        have HP := Lib.hid hP
        clear hOd hP hO m1 m2 hg hn
        go_wp2_with fail
        go_loopw [3, 5] (fun o i wr => ∃ (s : Nat) (n2 : Nat) (p : Option Addr) (q : Nat), (s : Int) ≤ c.st ∧ i = .int .i64 s ∧ n2 = n + 2 + s ∧ o = .slice p n2 q ∧ Own w0 F0 (row (.slice p n2 q) 3 1 n2 (intC (rng n2)) :: blk w.heap.size (cfO c (.slice pp c.ps.length cp) (.slice pl c.ls.length cl)) :: L) wr) (fun _ i _ => c.st.toNat - (intOf i).toNat)
        case atStart => exact ⟨0, n + 2, p', q', by omega, rfl, by omega, rfl, HP.out⟩
        case round =>
          obtain ⟨s, n2, p2, q2, hs2, rfl, hn2, rfl, hO⟩ := hrel
          obtain ⟨d0, d1, d2, d3, d4, d5, d6, d7⟩ := conf_cells hO.swap
          have hl := HE.out k
          have hn := HN.out
          by_cases hlt2 : (s : Int) < c.st
          · have m1 : n2 + 1 ≤ maxLen := by unfold maxLen; omega
            have m2 : (n2 + 1) * 8 ≤ 140737488355328 := by omega
            have Q3 := fun w => Lib.hid (show Calls Try.prog 15 #[.agg #[.int .i64 c.th, .int .i64 c.st, .int .i64 c.ga, .int .i64 c.le, .int .i64 c.re, .int .i64 c.ti, .slice pp c.ps.length cp, .slice pl c.ls.length cl], .int .i64 k, .int .i64 s] w (fun e w' => e = .returned (.int .i64 ((n2 : Int))) ∧ Below w.heap.size w w') from by rw [show (n2 : Int) = lim c k + 2 + s by omega]; exact Lease_q (pp := pp) (np := c.ps.length) (cp := cp) (pl := pl) (nl := c.ls.length) (cl := cl) c ⟨s0, s1⟩ k (by omega) (by omega) s (by omega) (by omega) w)
            have HT2 := Lib.hid (rng_one n2)
            have HN2 := Lib.hid hn2
            clear hl hn hn2
            go_wp2_with (first | (go_at_call 15; refine (Q3 _).out.mono ?_; rintro e w' ⟨rfl, hB⟩; have hO := Own.below hO hB) | (at_builtin; refine wpList_append_row rfl (.tmp 30) (.tmp 35) 22 rfl 3 i0 _ Try.underlying22 hi0 hz0 hz1 hz2 rfl (by decide) rfl (hO.alloc (.cells #[.int .i64 n2] 3)) ⟨w'.heap.size, 0, none⟩ 1 1 [.int .i64 n2] rfl rfl (news_at w' [.int .i64 n2] _ _ rfl) (by simp [Value.oneCell']) m1 m2 ?_; intro v' wA2 hO hg hn; obtain ⟨p3, q3, rfl⟩ := row_slice hO))
            have hP2 : Own w0 F0 (row (.slice p3 (n2 + 1) q3) 3 1 (n2 + 1) (intC (rng (n2 + 1))) :: blk w.heap.size (cfO c (.slice pp c.ps.length cp) (.slice pl c.ls.length cl)) :: L) wA2 := by rw [HT2.out]; exact hO
            have HP2 := Lib.hid hP2
            clear hP2 hO m1 m2 hg hn
            go_roundw
            case rel => exact ⟨s + 1, n2 + 1, _, _, by omega, by go_num, by have := HN2.out; omega, rfl, HP2.out⟩
            case measure => simp [intOf]; omega
          · have hge : c.st ≤ (s : Int) := by omega
            have HN2 := Lib.hid (show n2 = n + 2 + c.st.toNat by omega)
            have HO := Lib.hid hO
            clear hO hl hn hn2
            go_wp2_with fail
            clear d0 d1 d2 d3 d4 d5 d6 d7
            go_loopw [3, 6] (fun o i wr => ∃ (j : Nat) (n3 : Nat) (p : Option Addr) (q : Nat), (j : Int) ≤ 4 + c.st ∧ i = .int .i64 j ∧ n3 = n2 + j ∧ o = .slice p n3 q ∧ Own w0 F0 (row (.slice p n3 q) 3 1 n3 (intC (rng n3)) :: blk w.heap.size (cfO c (.slice pp c.ps.length cp) (.slice pl c.ls.length cl)) :: L) wr) (fun _ i _ => 4 + c.st.toNat - (intOf i).toNat)
            case atStart => exact ⟨0, n2, p2, q2, by omega, rfl, by omega, rfl, HO.out⟩
            case round =>
              obtain ⟨j, n3, p3, q3, hj, rfl, hn3, rfl, hO⟩ := hrel
              obtain ⟨d0, d1, d2, d3, d4, d5, d6, d7⟩ := conf_cells hO.swap
              have hl := HE.out k
              have hn := HN.out
              have hn2 := HN2.out
              by_cases hlt3 : (j : Int) < 4 + c.st
              · have m1 : n3 + 1 ≤ maxLen := by unfold maxLen; omega
                have m2 : (n3 + 1) * 8 ≤ 140737488355328 := by omega
                obtain ⟨r, hr⟩ : ∃ r : Int, r = lim c k + 2 + c.st := ⟨_, rfl⟩
                have hrn : r + (j : Int) = (n3 : Int) := by omega
                have hr0 : 0 ≤ r := by omega
                have Q4 := fun w => Lib.hid (show Calls Try.prog 17 #[.agg #[.int .i64 c.th, .int .i64 c.st, .int .i64 c.ga, .int .i64 c.le, .int .i64 c.re, .int .i64 c.ti, .slice pp c.ps.length cp, .slice pl c.ls.length cl], .int .i64 k] w (fun e w' => e = .returned (.int .i64 (r)) ∧ Below w.heap.size w w') from by rw [hr]; exact Counter_q (pp := pp) (np := c.ps.length) (cp := cp) (pl := pl) (nl := c.ls.length) (cl := cl) c ⟨s0, s1⟩ k (by omega) (by omega) w)
                have HT3 := Lib.hid (rng_one n3)
                have HN3 := Lib.hid hn3
                clear hl hn hn2 hn3 hr
                go_wp2_with (first | (go_at_call 17; refine (Q4 _).out.mono ?_; rintro e w' ⟨rfl, hB⟩; have hO := Own.below hO hB) | (at_builtin; refine wpList_append_row rfl (.tmp 44) (.tmp 50) 22 rfl 3 i0 _ Try.underlying22 hi0 hz0 hz1 hz2 rfl (by decide) rfl (hO.alloc (.cells #[.int .i64 n3] 3)) ⟨w'.heap.size, 0, none⟩ 1 1 [.int .i64 n3] rfl rfl (news_at w' [.int .i64 n3] _ _ rfl) (by simp [Value.oneCell']) m1 m2 ?_; intro v' wA3 hO hg hn; obtain ⟨p4, q4, rfl⟩ := row_slice hO))
                have hP3 : Own w0 F0 (row (.slice p4 (n3 + 1) q4) 3 1 (n3 + 1) (intC (rng (n3 + 1))) :: blk w.heap.size (cfO c (.slice pp c.ps.length cp) (.slice pl c.ls.length cl)) :: L) wA3 := by rw [HT3.out]; exact hO
                have HP3 := Lib.hid hP3
                clear hP3 hO m1 m2 hg hn
                go_roundw
                case rel => exact ⟨j + 1, n3 + 1, _, _, by omega, by go_num, by have := HN3.out; omega, rfl, HP3.out⟩
                case measure => simp [intOf]; omega
              · have hge3 : 4 + c.st ≤ (j : Int) := by omega
                have HN3 := Lib.hid (show n3 = limN c (k + 1) by have := HX.out k; omega)
                have HO3 := Lib.hid hO
                clear hO hl hn hn2 hn3
                go_wp2_with fail
                go_roundw
                case rel => exact ⟨k + 1, n3, _, _, by omega, by go_num, HN3.out, rfl, HO3.out⟩
                case measure => simp [intOf]; omega
    · have hge : c.ps.length ≤ k := by omega
      have hkl : k = c.ps.length := by omega
      have HN := Lib.hid (show n = limN c c.ps.length by rw [hn, hkl])
      have HO := Lib.hid hO
      clear hO hn hl hx hkl
      go_wp2_with fail
      clear d0 d1 d2 d3 d4 d5 d6 d7
      go_loopw [3, 7] (fun o i wr => ∃ (t : Nat) (n2 : Nat) (p : Option Addr) (q : Nat), (t : Int) ≤ c.ti ∧ i = .int .i64 t ∧ n2 = n + 2 * t ∧ o = .slice p n2 q ∧ Own w0 F0 (row (.slice p n2 q) 3 1 n2 (intC (rng n2)) :: blk w.heap.size (cfO c (.slice pp c.ps.length cp) (.slice pl c.ls.length cl)) :: L) wr) (fun _ i _ => c.ti.toNat - (intOf i).toNat)
      case atStart => exact ⟨0, n, p, q, by omega, rfl, by omega, rfl, HO.out⟩
      case round =>
        obtain ⟨t, n2, p2, q2, hs2, rfl, hn2, rfl, hO⟩ := hrel
        obtain ⟨d0, d1, d2, d3, d4, d5, d6, d7⟩ := conf_cells hO.swap
        have hl := HE.out c.ps.length
        have hn := HN.out
        have hz := HZ.out
        by_cases hlt2 : (t : Int) < c.ti
        · have m1 : n2 + 2 ≤ maxLen := by unfold maxLen; omega
          have m2 : (n2 + 2) * 8 ≤ 140737488355328 := by omega
          have hw : IntKind.i64.wrap ((n2 : Int) + 1) = ((n2 + 1 : Nat) : Int) := by rw [IntWalk.i64_in _ (by omega)]; omega
          have Q5 := fun w => Lib.hid (show Calls Try.prog 19 #[.agg #[.int .i64 c.th, .int .i64 c.st, .int .i64 c.ga, .int .i64 c.le, .int .i64 c.re, .int .i64 c.ti, .slice pp c.ps.length cp, .slice pl c.ls.length cl], .int .i64 t] w (fun e w' => e = .returned (.int .i64 ((n2 : Int))) ∧ Below w.heap.size w w') from by rw [show (n2 : Int) = lim c c.ps.length + 2 * t by omega]; exact Ticket_q (pp := pp) (np := c.ps.length) (cp := cp) (pl := pl) (nl := c.ls.length) (cl := cl) c ⟨s0, s1⟩ hn1 t (by omega) (by omega) w)
          have HT2 := Lib.hid (rng_two n2)
          have HN2 := Lib.hid hn2
          have hOd := hO.drew
          clear hO hl hn hn2 hz
          go_wp2_with fail
          go_region_held3 (fun w' => w'.cell? ⟨w.heap.size, 0, none⟩ = some (.int .i64 c.th) ∧ w'.cell? ⟨w.heap.size, 1, none⟩ = some (.int .i64 c.st) ∧ w'.cell? ⟨w.heap.size, 2, none⟩ = some (.int .i64 c.ga) ∧ w'.cell? ⟨w.heap.size, 3, none⟩ = some (.int .i64 c.le) ∧ w'.cell? ⟨w.heap.size, 4, none⟩ = some (.int .i64 c.re) ∧ w'.cell? ⟨w.heap.size, 5, none⟩ = some (.int .i64 c.ti) ∧ w'.cell? ⟨w.heap.size, 6, none⟩ = some (.slice pp c.ps.length cp) ∧ w'.cell? ⟨w.heap.size, 7, none⟩ = some (.slice pl c.ls.length cl)) (go_keep) (first | (go_at_call 19; refine (Q5 _).out.mono ?_; rintro e w' ⟨rfl, hB⟩; have hO := Own.below (by with_reducible assumption) hB; obtain ⟨d0, d1, d2, d3, d4, d5, d6, d7⟩ := conf_cells hO.swap) | (refine step_append_row rfl (.tmp 58) (.tmp 66) 22 rfl 3 i0 _ Try.underlying22 hi0 hz0 hz1 hz2 rfl (by decide) (by simp [Act.eval]) (hO.alloc (.cells #[.int .i64 n2, .int .i64 ((n2 + 1 : Nat) : Int)] 3)) ⟨w'.heap.size, 0, none⟩ 2 2 [.int .i64 n2, .int .i64 ((n2 + 1 : Nat) : Int)] (by simp [Act.eval]) rfl (news_at w' [.int .i64 n2, .int .i64 ((n2 + 1 : Nat) : Int)] _ _ rfl) (by simp [Value.oneCell']) m1 m2 ?_; intro v' wA hO hg hn; obtain ⟨p', q', rfl⟩ := row_slice hO; obtain ⟨d0, d1, d2, d3, d4, d5, d6, d7⟩ := conf_cells hO.swap))
          all_goals
            have hP2 : Own w0 F0 (row (.slice p' (n2 + 2) q') 3 1 (n2 + 2) (intC (rng (n2 + 2))) :: blk w.heap.size (cfO c (.slice pp c.ps.length cp) (.slice pl c.ls.length cl)) :: L) wA := by rw [HT2.out]; exact hO
            have HP2 := Lib.hid hP2
            clear hOd hP2 hO m1 m2 hg hn
            go_wp2_with fail
            go_roundw
            case rel => exact ⟨t + 1, n2 + 2, _, _, by omega, by go_num, by have := HN2.out; omega, rfl, HP2.out⟩
            case measure => simp [intOf]; omega
        · have hge2 : c.ti ≤ (t : Int) := by omega
          have hfin : n2 = sizeN c := by omega
          subst hfin
          have HO2 := Lib.hid hO
          clear hO hl hn hn2 hz
          go_wp2_with fail
          go_ret
          exact ⟨_, rfl, HO2.out.under fun _ _ h => h.drop⟩
end Go.Proofs.Ytnpjafiedbigaaa
