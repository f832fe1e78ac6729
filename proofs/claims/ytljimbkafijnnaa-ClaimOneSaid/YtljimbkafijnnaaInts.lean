/- Rows of ints: how they are read, and whether two are alike. -/
import Derived.Test.YtljimbkafijnnaaLaw
import Derived.Test.YtljimbkafijnnaaSep
import Derived.WalkKit
import Derived.ProofKit
import Derived.OpenShut
import Derived.Lib.Hide
import Derived.Laws.EntriesVeiled
import Derived.Deep.QuietTactic
import Derived.BigQuiet
import Derived.RegionTactic
import Derived.StillTailTactics
namespace Go.Proofs.Ytljimbkafijnnaa
open Go.ChangeShapes Go.WideShapes Go.ChangeAt Go.RowKit
set_option linter.unusedVariables false
variable {w0 w w' : World} {F0 : Nat → Prop} {L : List Asn}
def intC (ws : List Int) : List Value := ws.map (Value.int .i64)
theorem intC_len (ws : List Int) : (intC ws).length = ws.length := by simp [intC]
theorem row_slice {v : Value} {e : TypeId} {size n : Nat} {xs : List Value} (h : Own w0 F0 (row v e size n xs :: L) w) : ∃ p cap, v = .slice p n cap := by
  rcases h.isRow.2 with ⟨rfl, rfl⟩ | ⟨g, cap, cur, rfl, _⟩
  · exact ⟨_, _, rfl⟩
  · exact ⟨_, _, rfl⟩
theorem intC_get (ws : List Int) (i : Nat) (h : i < ws.length) : (intC ws)[i]? = some (.int .i64 (ws.getD i 0)) := by simp [intC, h]
/-- A row that is handed out. -/
def RetRow (w0 : World) (F0 : Nat → Prop) (M : List Asn) (e : TypeId) (size n : Nat) (xs : List Value) (en : Ending) (w : World) : Prop := ∃ v, en = .returned v ∧ Own w0 F0 (row v e size n xs :: M) w
theorem Try.info_int : (Try.prog.info? 3).map (fun i => (i.zero, i.size, i.bytes)) = some (some (.int .i64 0), 1, 8) := by kernel_rfl
theorem intC_one (zs : List Int) : ∀ u ∈ intC zs, u.oneCell' = true := fun u hu => by obtain ⟨x, _, rfl⟩ := List.mem_map.1 hu; rfl
theorem Own.intsAt {v : Value} {zs : List Int} (h : Own w0 F0 (row v 3 1 zs.length (intC zs) :: L) w) : IntsAt w .i64 v zs := by
  have hr := h.isRow
  rcases hr.2 with ⟨rfl, h0⟩ | ⟨g, cap, cur, rfl, _, hg, hnc, hcm, hcs, htk⟩
  · exact Or.inl ⟨List.eq_nil_of_length_eq_zero h0, _, _, rfl⟩
  · by_cases hz : zs.length = 0
    · have h0 := List.eq_nil_of_length_eq_zero hz
      subst h0
      exact Or.inl ⟨rfl, _, _, rfl⟩
    · refine Or.inr ⟨by omega, g, 0, cap, rfl, getElem?_lt hg, fun j hj => ?_⟩
      have := hr.cells (g := g) rfl j _ (intC_get zs j hj)
      rw [show (⟨g, 0, none⟩ : Addr).add j = ⟨g, j, none⟩ by unfold Addr.add; split <;> simp_all] at this
      rw [Nat.zero_add]; exact this
theorem IntsAt.drewN {k : IntKind} {v : Value} {zs : List Int} (h : IntsAt w k v zs) (n : Nat) : IntsAt (w.drewN n) k v zs := h
theorem IntsAt.below {k : IntKind} {v : Value} {zs : List Int} (h : IntsAt w k v zs) (hb : Below w.heap.size w w') : IntsAt w' k v zs := by
  rcases h with h | ⟨h0, b, off, cap, rfl, hlt, hc⟩
  · exact Or.inl h
  · exact Or.inr ⟨h0, b, off, cap, rfl, by have := hb.size; omega, fun j hj => by rw [hb.cell hlt]; exact hc j hj⟩
theorem IntsAt.slice {k : IntKind} {v : Value} {zs : List Int} (h : IntsAt w k v zs) : ∃ p cap, v = .slice p zs.length cap := by
  rcases h with ⟨rfl, p, cap, rfl⟩ | ⟨h0, b, off, cap, rfl, hlt, hc⟩ <;> exact ⟨_, _, rfl⟩
theorem IntsAt.at {k : IntKind} {v : Value} {zs : List Int} (h : IntsAt w k v zs) (h0 : 0 < zs.length) : ∃ b off cap, v = .slice (some ⟨b, off, none⟩) zs.length cap ∧ ∀ j, j < zs.length → w.cell? ⟨b, off + j, none⟩ = some (.int k (zs.getD j 0)) := by
  rcases h with ⟨rfl, p, cap, rfl⟩ | ⟨h0, b, off, cap, rfl, hlt, hc⟩
  · simp at h0
  · exact ⟨b, off, cap, rfl, hc⟩
/-- w' is w, but for answers that were drawn. -/
def Drew (w w' : World) : Prop := ∃ n, w' = w.drewN n
theorem Drew.refl (w : World) : Drew w w := ⟨0, rfl⟩
theorem Drew.more (h : Drew w w') (n : Nat) : Drew w (w'.drewN n) := by
  obtain ⟨q, rfl⟩ := h
  exact ⟨q + n, by simp [World.drewN, Nat.add_assoc]⟩
theorem Drew.cell (h : Drew w w') {a : Addr} {v : Value} (hc : w.cell? a = some v) : w'.cell? a = some v := by
  obtain ⟨q, rfl⟩ := h; exact hc
theorem Drew.below (h : Drew w w') : Below w.heap.size w w' := by
  obtain ⟨q, rfl⟩ := h
  exact ⟨rfl, rfl, rfl, Nat.le_refl _, fun _ _ => rfl⟩
theorem SameInts_yes {v u : Value} {zs : List Int} (hv : IntsAt w .i64 v zs) (hu : IntsAt w .i64 u zs) (hn : zs.length ≤ 1000000) :
    Calls Try.prog 24 #[v, u] w fun e w' => e = .returned (.bool true) ∧ Drew w w' := by
  by_cases h0 : 0 < zs.length
  · obtain ⟨b, off, cap, rfl, hb⟩ := hv.at h0
    obtain ⟨c, off', cap', rfl, hc⟩ := hu.at h0
    clear hv hu
    generalize zs.length = N at *
    have Hb := Lib.hid hb
    have Hc := Lib.hid hc
    clear hb hc
    go_enter Try.func24, Try.ntmps24
    go_wp2
    go_loopw [5] (fun i wr => ∃ k : Nat, k ≤ N ∧ i = .int .i64 k ∧ Drew w wr) (fun i _ => N - (intOf i).toNat)
    case atStart => exact ⟨0, by omega, rfl, Drew.refl w⟩
    case round =>
      obtain ⟨k, hk, rfl, hq⟩ := hrel
      by_cases hlt : k < N
      · have hbk : wr.cell? ⟨b, off + k, none⟩ = some (.int .i64 (zs.getD k 0)) := hq.cell (Hb.out k hlt)
        have hck : wr.cell? ⟨c, off' + k, none⟩ = some (.int .i64 (zs.getD k 0)) := hq.cell (Hc.out k hlt)
        generalize zs.getD k 0 = z at hbk hck
        go_wp2
        go_quiet (fail)
        go_wp2
        go_roundw
        case rel => exact ⟨k + 1, by omega, by go_num, hq.more nq⟩
        case measure => simp [intOf]; omega
      · go_wp2
        go_ret
        exact ⟨rfl, hq⟩
  · obtain ⟨p, cap, rfl⟩ := hv.slice
    obtain ⟨p', cap', rfl⟩ := hu.slice
    have h1 : zs.length = 0 := by omega
    rw [h1]
    clear hv hu h0 h1
    go_enter Try.func24, Try.ntmps24
    go_wp2
    refine wp_loop_rounds 1 ?_
    rw [rounds_succ]
    go_wp2
    go_ret
    exact ⟨rfl, Drew.refl w⟩
theorem IntsAt.stp {w w' : World} {k : IntKind} {v : Value} {zs : List Int} (h : IntsAt w k v zs) (hb : Stp w w') : IntsAt w' k v zs := h.below hb
end Go.Proofs.Ytljimbkafijnnaa
