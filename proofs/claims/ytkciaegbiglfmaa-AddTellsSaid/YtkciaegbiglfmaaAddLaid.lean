/- breadlinelaw06's laid. -/
import Derived.Test.YtkciaegbiglfmaaAddLaw
namespace Go.Proofs.Ytkciaegbiglfmaa
open Go.ChangeShapes Go.WideShapes Go.ChangeAt Go.RowKit Go.Shelf
set_option linter.unusedVariables false
set_option maxRecDepth 100000
variable {w0 w w' : World} {F0 : Nat → Prop} {L : List Asn} {ws : List Int}
def lay (ws : List Int) (k : Nat) : List Int := ws.take k ++ List.replicate (ws.length - k) 0
theorem lay_len (ws : List Int) (k : Nat) (h : k ≤ ws.length) : (lay ws k).length = ws.length := by simp [lay]; omega
theorem lay_zero (ws : List Int) : lay ws 0 = List.replicate ws.length 0 := by simp [lay]
theorem lay_all (ws : List Int) : lay ws ws.length = ws := by simp [lay]
theorem lay_set (ws : List Int) (k : Nat) (h : k < ws.length) : (lay ws k).set k (ws.getD k 0) = lay ws (k + 1) := by
  apply List.ext_getElem
  · rw [List.length_set, lay_len _ _ (by omega), lay_len _ _ (by omega)]
  · intro i h1 h2
    rw [List.length_set, lay_len _ _ (by omega)] at h1
    rw [List.getElem_set]
    simp only [lay, List.getElem_append, List.length_take, List.getElem_take, List.getElem_replicate]
    by_cases hi : k = i
    · subst hi
      rw [if_pos rfl, dif_pos (by omega)]
      simp [List.getD, h]
    · rw [if_neg hi]
      by_cases h3 : i < k
      · rw [dif_pos (by omega), dif_pos (by omega)]
      · rw [dif_neg (by omega), dif_neg (by omega)]
theorem laid_any {v : Value} (h0 : 0 < ws.length) (hn : ws.length ≤ 10000) (h : Own w0 F0 (row v 3 1 ws.length (intC ws) :: L) w) :
    Calls Try.prog 13 #[v] w fun e w' => ∃ m, e = .returned (.pointer (some ⟨m, 0, none⟩)) ∧ Own w0 F0 (memA 94 m ws [] :: row v 3 1 ws.length (intC ws) :: L) w' := by
  obtain ⟨p, cap, rfl⟩ := row_slice h
  have HN := Lib.hid (New_any ws.length hn h)
  have Hn := Lib.hid (lay_zero ws)
  have Hs := Lib.hid (lay_set ws)
  have Hl := Lib.hid (lay_len ws)
  have Ha := Lib.hid (lay_all ws)
  clear h
  go_enter Try.func13, Try.ntmps13
  go_wp2_with fail
  refine HN.out.mono ?_
  rintro e w1 ⟨ma, rfl, hO⟩
  have HO := Lib.hid hO
  clear HN hO
  go_wp2_with fail
  go_loopw [4] (fun v4 wr => ∃ k : Nat, k ≤ ws.length ∧ v4 = .int .i64 k ∧ Own w0 F0 (memA 94 ma (lay ws k) [] :: row (.slice p ws.length cap) 3 1 ws.length (intC ws) :: L) wr) (fun v4 _ => ws.length - (intOf v4).toNat)
  case atStart => exact ⟨0, Nat.zero_le _, rfl, by rw [Hn.out]; exact HO.out⟩
  case round =>
    obtain ⟨k, hk, rfl, hO⟩ := hrel
    by_cases hlt : k < ws.length
    · obtain ⟨b, off, cap', hv, hc⟩ := hO.swap.intsAt.at h0
      injection hv with hv _ hv1
      subst hv hv1
      have c0 := hc k hlt
      have HP := Lib.hid (Poke_yes k (ws.getD k 0) (by rw [Hl.out _ hk]; exact hlt) hO)
      rw [Hs.out k hlt] at HP
      generalize ws.getD k 0 = x at c0 HP
      clear hc hO HO
      go_wp2_with fail
      refine HP.out.mono ?_
      rintro e w2 ⟨rfl, hO⟩
      have HO := Lib.hid hO
      clear hO
      go_wp2_with fail
      go_roundw
      case rel => exact ⟨k + 1, by omega, by go_num, HO.out⟩
      case measure => simp [intOf]; omega
    · obtain rfl : k = ws.length := by omega
      rw [Ha.out] at hO
      have HO2 := Lib.hid hO
      clear hO HO
      go_wp2_with fail
      go_ret
      exact ⟨_, rfl, HO2.out⟩
end Go.Proofs.Ytkciaegbiglfmaa
