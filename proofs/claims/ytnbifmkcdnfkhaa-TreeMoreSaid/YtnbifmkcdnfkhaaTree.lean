/- Contracts of package tree: bounds, parents, who there is. -/
import Derived.Test.YtnbifmkcdnfkhaaInts
import Derived.Test.YtnbifmkcdnfkhaaTreeMath
namespace Go.Proofs.Ytnbifmkcdnfkhaa
open Go.ChangeShapes Go.WideShapes Go.ChangeAt Go.RowKit
set_option linter.unusedVariables false
variable {w0 w w' : World} {F0 : Nat → Prop} {L : List Asn}
theorem within_yes (lo hi : Int) {v : Value} {zs : List Int} (hv : IntsAt w .i64 v zs) (hn : zs.length ≤ 140737488351232) (h : AllIn lo hi zs) :
    Calls Try.prog 23 #[.int .i64 lo, .int .i64 hi, v] w fun e w' => e = .returned (.bool true) ∧ w = w' := by
  by_cases h0 : 0 < zs.length
  · obtain ⟨b, off, cap, rfl, hb⟩ := hv.at h0
    clear hv
    have HA := Lib.hid h
    clear h
    unfold AllIn at HA
    generalize zs.length = N at *
    have Hb := Lib.hid hb
    clear hb
    go_enter Try.func23, Try.ntmps23
    go_wp2
    go_loop [11] (fun i => ∃ k : Nat, k ≤ N ∧ i = .int .i64 k) (fun i => N - (intOf i).toNat)
    case atStart => exact ⟨0, by omega, rfl⟩
    case round =>
      obtain ⟨k, hk, rfl⟩ := hrel
      by_cases hlt : k < N
      · have hbk : w.cell? ⟨b, off + k, none⟩ = some (.int .i64 (zs.getD k 0)) := Hb.out k hlt
        obtain ⟨h1, h2⟩ := HA.out k hlt
        generalize zs.getD k 0 = z at hbk h1 h2
        go_wp2
        go_round
        case rel => exact ⟨k + 1, by omega, by go_num⟩
        case measure => simp [intOf]; omega
      · go_wp2
        go_ret
        exact ⟨rfl, rfl⟩
  · obtain ⟨p, cap, rfl⟩ := hv.slice
    have h1 : zs.length = 0 := by omega
    rw [h1]
    clear hv h0 h1 h
    go_enter Try.func23, Try.ntmps23
    go_wp2
    refine wp_loop_rounds 1 ?_
    rw [rounds_succ]
    go_wp2
    go_ret
    exact ⟨rfl, rfl⟩
theorem within_no (lo hi : Int) {v : Value} {zs : List Int} (hv : IntsAt w .i64 v zs) (hn : zs.length ≤ 140737488351232) (h : ¬ AllIn lo hi zs) :
    Calls Try.prog 23 #[.int .i64 lo, .int .i64 hi, v] w fun e w' => e = .returned (.bool false) ∧ w = w' := by
  have h0 : 0 < zs.length := by
    rcases Nat.eq_zero_or_pos zs.length with h0 | h0
    · exact absurd (fun i hi => by omega) h
    · exact h0
  obtain ⟨b, off, cap, rfl, hb⟩ := hv.at h0
  clear hv
  unfold AllIn at h
  have HA := Lib.hid h
  clear h
  generalize zs.length = N at *
  have Hb := Lib.hid hb
  clear hb
  go_enter Try.func23, Try.ntmps23
  go_wp2
  go_loop [11] (fun i => ∃ k : Nat, k ≤ N ∧ i = .int .i64 k ∧ Hid (∀ j, j < k → Bd lo hi (zs.getD j 0))) (fun i => N - (intOf i).toNat)
  case atStart => exact ⟨0, by omega, rfl, Lib.hid (fun j hj => by omega)⟩
  case round =>
    obtain ⟨k, hk, rfl, HB⟩ := hrel
    by_cases hlt : k < N
    · have hbk : w.cell? ⟨b, off + k, none⟩ = some (.int .i64 (zs.getD k 0)) := Hb.out k hlt
      obtain ⟨z, hz⟩ : ∃ z, zs.getD k 0 = z := ⟨_, rfl⟩
      rw [hz] at hbk
      by_cases hin : lo ≤ z ∧ z ≤ hi
      · have HB2 := Lib.hid (show ∀ j, j < k + 1 → Bd lo hi (zs.getD j 0) from fun j hj => by
          rcases Nat.lt_or_eq_of_le (Nat.le_of_lt_succ hj) with h | rfl
          · exact HB.out j h
          · rw [hz]; exact hin)
        obtain ⟨h1, h2⟩ := hin
        clear hz
        go_wp2
        go_round
        case rel => exact ⟨k + 1, by omega, by go_num, HB2⟩
        case measure => simp [intOf]; omega
      · clear hz
        rcases (by omega : z < lo ∨ (lo ≤ z ∧ hi < z)) with h1 | ⟨h1, h2⟩
        · clear hin
          go_wp2
          go_ret
          exact ⟨rfl, rfl⟩
        · clear hin
          go_wp2
          go_ret
          exact ⟨rfl, rfl⟩
    · exact absurd (fun j hj => HB.out j (by omega)) HA.out
theorem pow_yes (n : Int) (h : Pow n) (w : World) : Calls Try.prog 24 #[.int .i64 n] w fun e w' => e = .returned (.bool true) ∧ w = w' := by
  have e1 : bits .and .i64 1 0 = 0 := by decide +kernel
  have e2 : bits .and .i64 2 1 = 0 := by decide +kernel
  have e3 : bits .and .i64 4 3 = 0 := by decide +kernel
  have e4 : bits .and .i64 8 7 = 0 := by decide +kernel
  rcases h with rfl | rfl | rfl | rfl
  all_goals
    go_enter Try.func24, Try.ntmps24
    go_wp2
    go_ret
    exact ⟨rfl, rfl⟩
theorem pow_no (n : Int) (h0 : 1 ≤ n) (h1 : n ≤ 8) (h : ¬ Pow n) (w : World) : Calls Try.prog 24 #[.int .i64 n] w fun e w' => e = .returned (.bool false) ∧ w = w' := by
  have e1 : bits .and .i64 3 2 = 2 := by decide +kernel
  have e2 : bits .and .i64 5 4 = 4 := by decide +kernel
  have e3 : bits .and .i64 6 5 = 4 := by decide +kernel
  have e4 : bits .and .i64 7 6 = 6 := by decide +kernel
  have hc : n = 3 ∨ n = 5 ∨ n = 6 ∨ n = 7 := by unfold Pow at h; omega
  clear h h0 h1
  rcases hc with rfl | rfl | rfl | rfl
  all_goals
    go_enter Try.func24, Try.ntmps24
    go_wp2
    go_ret
    exact ⟨rfl, rfl⟩
/-- One number, as a row of a block that is new. -/
theorem one_at (w : World) (x : Int) (n : Nat) (hn : n = w.heap.size) : IntsAt (w.alloc (.cells #[.int .i64 x] 3)) .i64 (.slice (some ⟨n, 0, none⟩) 1 1) [x] := by
  refine Or.inr ⟨by simp, n, 0, 1, rfl, by simp; omega, fun j hj => ?_⟩
  have : j = 0 := by simpa using hj
  subst this
  rw [hn, Nat.zero_add, World.cell?_alloc_new]
  rfl
theorem allIn_one {lo hi x : Int} : AllIn lo hi [x] ↔ Bd lo hi x := by
  constructor
  · intro h; exact h 0 (by simp)
  · intro h i hi'
    have : i = 0 := by simpa using hi'
    subst this; exact h
theorem one_yes (lo hi x : Int) (h : Bd lo hi x) (w : World) (n : Nat) (hn : n = w.heap.size) :
    Calls Try.prog 23 #[.int .i64 lo, .int .i64 hi, .slice (some ⟨n, 0, none⟩) 1 1] (w.alloc (.cells #[.int .i64 x] 3)) fun e w' => e = .returned (.bool true) ∧ w.alloc (.cells #[.int .i64 x] 3) = w' :=
  within_yes lo hi (one_at w x n hn) (by simp) (allIn_one.2 h)
theorem one_no (lo hi x : Int) (h : ¬ Bd lo hi x) (w : World) (n : Nat) (hn : n = w.heap.size) :
    Calls Try.prog 23 #[.int .i64 lo, .int .i64 hi, .slice (some ⟨n, 0, none⟩) 1 1] (w.alloc (.cells #[.int .i64 x] 3)) fun e w' => e = .returned (.bool false) ∧ w.alloc (.cells #[.int .i64 x] 3) = w' :=
  within_no lo hi (one_at w x n hn) (by simp) (fun h' => h (allIn_one.1 h'))
end Go.Proofs.Ytnbifmkcdnfkhaa
