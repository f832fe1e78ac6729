/- The functions of breadlinelaw08: Pokes, Laid, own. -/
import Derived.Test.YtpapcblgojfooaaPoolLaw
import Derived.Test.YtpapcblgojfooaaPoolFns
import Derived.Test.YtpapcblgojfooaaMemApi
import Derived.Test.YtpapcblgojfooaaMemRef
import Derived.StillTailTactics
namespace Go.Proofs.Ytpapcblgojfooaa
open Go.ChangeShapes Go.WideShapes Go.ChangeAt Go.RowKit Go.Shelf
set_option linter.unusedVariables false
set_option linter.unusedSimpArgs false
set_option maxRecDepth 100000
variable {w0 w w' W : World} {F0 : Nat → Prop} {L : List Asn} {T : TypeId} {m : Nat} {ws : List Int} {lg : List Acc}
theorem pLaid_any {v : Value} (h0 : 0 < ws.length) (hn : ws.length ≤ 10000) (h : Own w0 F0 (row v 3 1 ws.length (intC ws) :: L) w) :
    Calls Try.prog 14 #[v] w fun e w' => ∃ m, e = .returned (.pointer (some ⟨m, 0, none⟩)) ∧ Own w0 F0 (memA 94 m ws [] :: row v 3 1 ws.length (intC ws) :: L) w' := by
  obtain ⟨p, cap, rfl⟩ := row_slice h
  have HN := Lib.hid (New_any ws.length hn h)
  have Hn := Lib.hid (lay_zero ws)
  have Hs := Lib.hid (lay_set ws)
  have Hl := Lib.hid (lay_len ws)
  have Ha := Lib.hid (lay_all ws)
  clear h
  go_enter Try.func14, Try.ntmps14
  go_wp2_with fail
  refine HN.out.mono ?_
  rintro e w1 ⟨ma, rfl, hO⟩
  have HO := Lib.hid hO
  clear HN hO
  go_wp2_with fail
  go_loopw [4] (fun v4 wr => ∃ k : Nat, k ≤ ws.length ∧ v4 = .int .i64 k ∧ Own w0 F0 (memA 94 ma (lay ws k) [] :: row (.slice p ws.length cap) 3 1 ws.length (intC ws) :: L) wr) (fun v4 _ => ws.length - (intOf v4).toNat)
  case atStart => exact ⟨0, Nat.zero_le _, rfl, by rw [Hn.out]; exact HO.out⟩
  case round =>
    obtain ⟨k, hk, rfl, hO⟩ := hrel
    by_cases hlt : k < ws.length
    · obtain ⟨b, off, cap', hv, hc⟩ := hO.swap.intsAt.at h0
      injection hv with hv _ hv1
      subst hv hv1
      have c0 := hc k hlt
      have HP := Lib.hid (Poke_yes k (ws.getD k 0) (by rw [Hl.out _ hk]; exact hlt) hO)
      rw [Hs.out k hlt] at HP
      generalize ws.getD k 0 = x at c0 HP
      clear hc hO HO
      go_wp2_with fail
      refine HP.out.mono ?_
      rintro e w2 ⟨rfl, hO⟩
      have HO := Lib.hid hO
      clear hO
      go_wp2_with fail
      go_roundw
      case rel => exact ⟨k + 1, by omega, by go_num, HO.out⟩
      case measure => simp [intOf]; omega
    · obtain rfl : k = ws.length := by omega
      rw [Ha.out] at hO
      have HO2 := Lib.hid hO
      clear hO HO
      go_wp2_with fail
      go_ret
      exact ⟨_, rfl, HO2.out⟩
theorem ownL_take (l : List Acc) (k : Nat) (hk : k < l.length) : ownL (l.take (k + 1)) = ownL (l.take k) + ownA (l.getD k ⟨0, 0, 0, 0, false⟩) := by
  rw [List.take_add_one, List.getElem?_eq_getElem hk]
  have : l.getD k ⟨0, 0, 0, 0, false⟩ = l[k] := by simp [List.getD, hk]
  rw [this]
  exact ownL_app _ _
theorem wrap_in (s a : Int) : wrap64 (wrap64 s + a) = wrap64 (s + a) := by unfold wrap64; omega
theorem wrap_in2 (s a b : Int) : wrap64 (wrap64 (wrap64 s + b) - a) = wrap64 (s + (b - a)) := by unfold wrap64; omega
theorem beqz {a b : Int} (h : ¬ a = b) : (a == b) = false ∧ decide (a = b) = false := ⟨by rw [beq_eq_false_iff_ne]; exact h, by simp [h]⟩
set_option maxHeartbeats 2000000 in
theorem pOwn_any {v : Value} (hn : lg.length ≤ 1000000) (hv : LogAt w v lg) :
    Calls Try.prog 29 #[v] w fun e w' => e = .returned (.int .i64 (wrap64 (ownL lg))) ∧ Drew w w' := by
  by_cases h0 : 0 < lg.length
  · obtain ⟨b, off, cap, rfl, hb⟩ := hv.at h0
    clear hv
    have Ht := Lib.hid (ownL_take lg)
    have Hall := Lib.hid (show ownL lg = ownL (lg.take lg.length) by rw [List.take_length])
    have Hz := Lib.hid (show wrap64 (ownL (lg.take 0)) = 0 by simp [ownL, wrap64])
    rw [Hall.out]
    generalize lg.length = N at *
    have Hb := Lib.hid hb
    clear hb
    go_enter Try.func29, Try.ntmps29
    go_wp2_with fail
    go_loopw [3, 4] (fun v3 v4 wr => ∃ k : Nat, k ≤ N ∧ v3 = .int .i64 (wrap64 (ownL (lg.take k))) ∧ v4 = .int .i64 k ∧ Drew w wr) (fun v3 v4 _ => N - (intOf v4).toNat)
    case atStart => exact ⟨0, Nat.zero_le _, by rw [Hz.out], rfl, Drew.refl w⟩
    case round =>
      obtain ⟨k, hk, rfl, rfl, hq⟩ := hrel
      by_cases hlt : k < N
      · have HTk := Lib.hid (Ht.out k hlt)
        obtain ⟨x, hx⟩ : ∃ x, x = lg.getD k ⟨0, 0, 0, 0, false⟩ := ⟨_, rfl⟩
        rw [← hx] at HTk
        obtain ⟨x0, x1, x2, x3, x4⟩ := x
        have b0 : wr.cell? ⟨b, off + k * 5, none⟩ = some (.int .i64 x0) := hq.cell (by have := Hb.out k 0 hlt (by omega); rw [← hx] at this; exact this)
        have b1 : wr.cell? ⟨b, off + k * 5 + 1, none⟩ = some (.int .i64 x1) := hq.cell (by have := Hb.out k 1 hlt (by omega); rw [← hx] at this; exact this)
        have b2 : wr.cell? ⟨b, off + k * 5 + 2, none⟩ = some (.int .i64 x2) := hq.cell (by have := Hb.out k 2 hlt (by omega); rw [← hx] at this; exact this)
        have b3 : wr.cell? ⟨b, off + k * 5 + 3, none⟩ = some (.int .i64 x3) := hq.cell (by have := Hb.out k 3 hlt (by omega); rw [← hx] at this; exact this)
        have b4 : wr.cell? ⟨b, off + k * 5 + 4, none⟩ = some (.bool x4) := hq.cell (by have := Hb.out k 4 hlt (by omega); rw [← hx] at this; exact this)
        have Hq := Lib.hid hq
        clear hx hq Hz Ht Hall
        generalize ownL (lg.take k) = s at *
        by_cases h2 : x0 = 2
        · subst h2
          have hA := Lib.hid (show wrap64 (ownL (lg.take (k + 1))) = wrap64 (wrap64 s + x2) by rw [HTk.out, wrap_in]; rfl)
          go_wp2_with fail
          go_roundw
          case rel => exact ⟨k + 1, by omega, by rw [hA.out], by go_num, Hq.out⟩
          case measure => simp [intOf]; omega
        · obtain ⟨g1, g2⟩ := beqz h2
          by_cases h3 : x0 = 3
          · subst h3
            cases x4 with
            | true =>
              have hA := Lib.hid (show wrap64 (ownL (lg.take (k + 1))) = wrap64 (wrap64 (wrap64 s + x3) - x2) by rw [HTk.out, wrap_in2]; rfl)
              clear h2 g1 g2
              go_wp2_with fail
              go_quiet (fail)
              have Hq2 := Lib.hid (Hq.out.more nq)
              clear b0 b1 b2 b3 b4 Hq
              generalize World.drewN wr nq = w4 at *
              go_wp2_with fail
              go_roundw
              case rel => exact ⟨k + 1, by omega, by rw [hA.out], by go_num, Hq2.out⟩
              case measure => simp [intOf]; omega
            | false =>
              have hA := Lib.hid (show wrap64 (ownL (lg.take (k + 1))) = wrap64 s by rw [HTk.out, show ownA ⟨3, x1, x2, x3, false⟩ = 0 from rfl, Int.add_zero])
              clear h2 g1 g2
              go_wp2_with fail
              go_roundw
              case rel => exact ⟨k + 1, by omega, by rw [hA.out], by go_num, Hq.out⟩
              case measure => simp [intOf]; omega
          · obtain ⟨g3, g4⟩ := beqz h3
            have hA := Lib.hid (show wrap64 (ownL (lg.take (k + 1))) = wrap64 s by
              rw [HTk.out, show ownA ⟨x0, x1, x2, x3, x4⟩ = 0 by unfold ownA; rw [if_neg h2, if_neg (fun h => h3 h.1)], Int.add_zero])
            go_wp2_with fail
            go_roundw
            case rel => exact ⟨k + 1, by omega, by rw [hA.out], by go_num, Hq.out⟩
            case measure => simp [intOf]; omega
      · obtain rfl : k = N := by omega
        have Hq := Lib.hid hq
        clear hq
        go_wp2_with fail
        go_ret
        exact ⟨rfl, Hq.out⟩
  · obtain rfl : lg = [] := List.eq_nil_of_length_eq_zero (by omega)
    obtain ⟨p, cap, rfl⟩ : ∃ p cap, v = .slice p 0 cap := by
      rcases hv with ⟨_, h⟩ | ⟨h, _⟩
      · exact h
      · simp at h
    rw [show wrap64 (ownL []) = 0 by simp [ownL, wrap64]]
    clear hv
    go_enter Try.func29, Try.ntmps29
    go_wp2_with fail
    refine wp_loop_rounds 1 ?_
    rw [rounds_succ]
    go_wp2_with fail
    go_ret
    exact ⟨rfl, Drew.refl w⟩
end Go.Proofs.Ytpapcblgojfooaa
