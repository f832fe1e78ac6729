/- The functions of breadlinelaw08: Pokes, Laid, own. -/
import Derived.Test.YtljimbkafijnnaaPoolLaw
import Derived.Test.YtljimbkafijnnaaPoolMath2
import Derived.Test.YtljimbkafijnnaaMemApi
import Derived.Test.YtljimbkafijnnaaMemRef
import Derived.StillTailTactics
namespace Go.Proofs.Ytljimbkafijnnaa
open Go.ChangeShapes Go.WideShapes Go.ChangeAt Go.RowKit Go.Shelf
set_option linter.unusedVariables false
set_option linter.unusedSimpArgs false
set_option maxRecDepth 100000
variable {w0 w w' W : World} {F0 : Nat → Prop} {L : List Asn} {T : TypeId} {m : Nat} {ws : List Int} {lg : List Acc}
theorem pLaid_any {v : Value} (h0 : 0 < ws.length) (hn : ws.length ≤ 10000) (h : Own w0 F0 (row v 3 1 ws.length (intC ws) :: L) w) :
    Calls Try.prog 12 #[v] w fun e w' => ∃ m, e = .returned (.pointer (some ⟨m, 0, none⟩)) ∧ Own w0 F0 (memA 92 m ws [] :: row v 3 1 ws.length (intC ws) :: L) w' := by
  obtain ⟨p, cap, rfl⟩ := row_slice h
  have HN := Lib.hid (New_any ws.length hn h)
  have Hn := Lib.hid (lay_zero ws)
  have Hs := Lib.hid (lay_set ws)
  have Hl := Lib.hid (lay_len ws)
  have Ha := Lib.hid (lay_all ws)
  clear h
  go_enter Try.func12, Try.ntmps12
  go_wp2_with fail
  refine HN.out.mono ?_
  rintro e w1 ⟨ma, rfl, hO⟩
  have HO := Lib.hid hO
  clear HN hO
  go_wp2_with fail
  go_loopw [4] (fun v4 wr => ∃ k : Nat, k ≤ ws.length ∧ v4 = .int .i64 k ∧ Own w0 F0 (memA 92 ma (lay ws k) [] :: row (.slice p ws.length cap) 3 1 ws.length (intC ws) :: L) wr) (fun v4 _ => ws.length - (intOf v4).toNat)
  case atStart => exact ⟨0, Nat.zero_le _, rfl, by rw [Hn.out]; exact HO.out⟩
  case round =>
    obtain ⟨k, hk, rfl, hO⟩ := hrel
    by_cases hlt : k < ws.length
    · obtain ⟨b, off, cap', hv, hc⟩ := hO.swap.intsAt.at h0
      injection hv with hv _ hv1
      subst hv hv1
      have c0 := hc k hlt
      have HP := Lib.hid (Poke_yes k (ws.getD k 0) (by rw [Hl.out _ hk]; exact hlt) hO)
      rw [Hs.out k hlt] at HP
      generalize ws.getD k 0 = x at c0 HP
      clear hc hO HO
      go_wp2_with fail
      refine HP.out.mono ?_
      rintro e w2 ⟨rfl, hO⟩
      have HO := Lib.hid hO
      clear hO
      go_wp2_with fail
      go_roundw
      case rel => exact ⟨k + 1, by omega, by go_num, HO.out⟩
      case measure => simp [intOf]; omega
    · obtain rfl : k = ws.length := by omega
      rw [Ha.out] at hO
      have HO2 := Lib.hid hO
      clear hO HO
      go_wp2_with fail
      go_ret
      exact ⟨_, rfl, HO2.out⟩
theorem ownL_take (l : List Acc) (k : Nat) (hk : k < l.length) : ownL (l.take (k + 1)) = ownL (l.take k) + ownA (l.getD k ⟨0, 0, 0, 0, false⟩) := by
  rw [List.take_add_one, List.getElem?_eq_getElem hk]
  have : l.getD k ⟨0, 0, 0, 0, false⟩ = l[k] := by simp [List.getD, hk]
  rw [this]
  exact ownL_app _ _
theorem wrap_in (s a : Int) : wrap64 (wrap64 s + a) = wrap64 (s + a) := by unfold wrap64; omega
theorem wrap_in2 (s a b : Int) : wrap64 (wrap64 (wrap64 s + b) - a) = wrap64 (s + (b - a)) := by unfold wrap64; omega
theorem beqz {a b : Int} (h : ¬ a = b) : (a == b) = false ∧ decide (a = b) = false := ⟨by rw [beq_eq_false_iff_ne]; exact h, by simp [h]⟩
end Go.Proofs.Ytljimbkafijnnaa
