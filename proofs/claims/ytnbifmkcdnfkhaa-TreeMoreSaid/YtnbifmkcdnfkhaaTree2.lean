/- Contracts of package tree: a row of parents; who there is; settings that are right. -/
import Derived.Test.YtnbifmkcdnfkhaaTree
namespace Go.Proofs.Ytnbifmkcdnfkhaa
open Go.ChangeShapes Go.WideShapes Go.ChangeAt Go.RowKit
set_option linter.unusedVariables false
variable {w0 w w' : World} {F0 : Nat → Prop} {L : List Asn}
theorem grown_yes {v : Value} {zs : List Int} (hv : IntsAt w .i64 v zs) (hn : zs.length ≤ 140737488351232) (hp : 0 < zs.length) (h : Grown zs) (hz : ∀ i, i < zs.length → Bd (-9223372036854775808) 9223372036854775807 (zs.getD i 0)) :
    Calls Try.prog 25 #[v] w fun e w' => e = .returned (.bool true) ∧ Below w.heap.size w w' := by
  obtain ⟨b, off, cap, rfl, hb⟩ := hv.at hp
  clear hv
  unfold Grown at h
  have HA := Lib.hid h
  have HZ := Lib.hid hz
  clear h hz
  generalize zs.length = N at *
  have Hb := Lib.hid hb
  clear hb
  go_enter Try.func25, Try.ntmps25
  go_wp2
  go_loopw [7] (fun i wr => ∃ k : Nat, k ≤ N ∧ i = .int .i64 k ∧ Below w.heap.size w wr) (fun i _ => N - (intOf i).toNat)
  case atStart => exact ⟨0, by omega, rfl, Below.refl _ _⟩
  case round =>
    obtain ⟨k, hk, rfl, hB⟩ := hrel
    by_cases hlt : k < N
    · have hbk0 := Hb.out k hlt
      have hbk : wr.cell? ⟨b, off + k, none⟩ = some (.int .i64 (zs.getD k 0)) := by rw [hB.cell (World.block_lt_of_cell? w _ hbk0)]; exact hbk0
      have hok := HA.out k hlt
      obtain ⟨hz0, hz1⟩ := HZ.out k hlt
      have HB := Lib.hid hB
      clear hbk0 hB
      generalize zs.getD k 0 = z at hbk hok hz0 hz1
      by_cases h0 : k = 0
      · have hF : ((k : Int) == 0) = true := by rw [h0]; rfl
        have hF3 : decide (0 < (k : Int)) = false := by rw [h0]; rfl
        have hF4 : (k : Int) ≤ 0 := by omega
        obtain rfl : z = -1 := hok.1 h0
        clear hok h0
        go_wp2
        go_roundw
        case rel => exact ⟨k + 1, by omega, by go_num, HB.out⟩
        case measure => simp [intOf]; omega
      · obtain ⟨h1, h2⟩ := hok.2 (by omega)
        have hk0 : (0 : Int) < k := by omega
        have hF : ((k : Int) == 0) = false := by rw [beq_eq_false_iff_ne]; omega
        clear hok h0
        have H1 := fun w n hn => Lib.hid (one_yes 0 ((k : Int) - 1) z ⟨h1, h2⟩ w n hn)
        go_wp2_with fail
        refine (H1 _ _ rfl).out.mono ?_
        rintro e w1 ⟨rfl, rfl⟩
        have HB2 := Lib.hid (HB.out.alloc (by have := HB.out.size; omega) (.cells #[.int .i64 z] 3))
        go_wp2
        go_roundw
        case rel => exact ⟨k + 1, by omega, by go_num, HB2.out⟩
        case measure => simp [intOf]; omega
    · go_wp2
      go_ret
      exact ⟨rfl, hB⟩
theorem grown_no {v : Value} {zs : List Int} (hv : IntsAt w .i64 v zs) (hn : zs.length ≤ 140737488351232) (hp : 0 < zs.length) (h : ¬ Grown zs) (hz : ∀ i, i < zs.length → Bd (-9223372036854775808) 9223372036854775807 (zs.getD i 0)) :
    Calls Try.prog 25 #[v] w fun e w' => e = .returned (.bool false) ∧ Below w.heap.size w w' := by
  obtain ⟨b, off, cap, rfl, hb⟩ := hv.at hp
  clear hv
  unfold Grown at h
  have HA := Lib.hid h
  have HZ := Lib.hid hz
  clear h hz
  generalize zs.length = N at *
  have Hb := Lib.hid hb
  clear hb
  go_enter Try.func25, Try.ntmps25
  go_wp2
  go_loopw [7] (fun i wr => ∃ k : Nat, k ≤ N ∧ i = .int .i64 k ∧ Below w.heap.size w wr ∧ Hid (∀ j, j < k → okAt j (zs.getD j 0))) (fun i _ => N - (intOf i).toNat)
  case atStart => exact ⟨0, by omega, rfl, Below.refl _ _, Lib.hid (fun j hj => by omega)⟩
  case round =>
    obtain ⟨k, hk, rfl, hB, HK⟩ := hrel
    by_cases hlt : k < N
    · have hbk0 := Hb.out k hlt
      have hbk : wr.cell? ⟨b, off + k, none⟩ = some (.int .i64 (zs.getD k 0)) := by rw [hB.cell (World.block_lt_of_cell? w _ hbk0)]; exact hbk0
      obtain ⟨hz0, hz1⟩ := HZ.out k hlt
      have HB := Lib.hid hB
      have HK2 := Lib.hid (show okAt k (zs.getD k 0) → ∀ j, j < k + 1 → okAt j (zs.getD j 0) from fun ho j hj => by
        rcases Nat.lt_or_eq_of_le (Nat.le_of_lt_succ hj) with h | rfl
        · exact HK.out j h
        · exact ho)
      clear hbk0 hB
      generalize zs.getD k 0 = z at hbk hz0 hz1 HK2
      by_cases h0 : k = 0
      · have hF : ((k : Int) == 0) = true := by rw [h0]; rfl
        have hF3 : decide (0 < (k : Int)) = false := by rw [h0]; rfl
        have hF4 : (k : Int) ≤ 0 := by omega
        by_cases hm : z = -1
        · subst hm
          have HK3 := Lib.hid (HK2.out ⟨fun _ => rfl, fun h => by omega⟩)
          clear HK2 h0
          go_wp2
          go_roundw
          case rel => exact ⟨k + 1, by omega, by go_num, HB.out, HK3⟩
          case measure => simp [intOf]; omega
        · have hF2 : (z != -1) = true := by simp [hm]
          clear hm HK2 h0
          go_wp2
          go_ret
          exact ⟨rfl, HB.out⟩
      · have hk0 : (0 : Int) < k := by omega
        have hF : ((k : Int) == 0) = false := by rw [beq_eq_false_iff_ne]; omega
        by_cases hin : Bd 0 ((k : Int) - 1) z
        · have HK3 := Lib.hid (HK2.out ⟨fun h => by omega, fun _ => hin⟩)
          have H1 := fun w n hn => Lib.hid (one_yes 0 ((k : Int) - 1) z hin w n hn)
          clear hin HK2 h0
          go_wp2_with fail
          refine (H1 _ _ rfl).out.mono ?_
          rintro e w1 ⟨rfl, rfl⟩
          have HB2 := Lib.hid (HB.out.alloc (by have := HB.out.size; omega) (.cells #[.int .i64 z] 3))
          go_wp2
          go_roundw
          case rel => exact ⟨k + 1, by omega, by go_num, HB2.out, HK3⟩
          case measure => simp [intOf]; omega
        · have H1 := fun w n hn => Lib.hid (one_no 0 ((k : Int) - 1) z hin w n hn)
          clear hin HK2 h0
          go_wp2_with fail
          refine (H1 _ _ rfl).out.mono ?_
          rintro e w1 ⟨rfl, rfl⟩
          have HB2 := Lib.hid (HB.out.alloc (by have := HB.out.size; omega) (.cells #[.int .i64 z] 3))
          go_wp2
          go_ret
          exact ⟨rfl, HB2.out⟩
    · exact absurd (fun j hj => HK.out j (by omega)) HA.out
/-- A setting as a value. -/
abbrev cfV (c : Cf) (vp vl : Value) : Value := .agg #[.int .i64 c.th, .int .i64 c.st, .int .i64 c.ga, .int .i64 c.le, .int .i64 c.re, .int .i64 c.ti, vp, vl]
abbrev cfO (c : Cf) (vp vl : Value) : Obj := .cells #[.int .i64 c.th, .int .i64 c.st, .int .i64 c.ga, .int .i64 c.le, .int .i64 c.re, .int .i64 c.ti, vp, vl] 24 (0, 0)
theorem has_yes (c : Cf) (p : Option Addr) (n cap : Nat) (vl : Value) (v : Int) (h0 : 0 ≤ v) (h1 : v < n) (hn : n ≤ 140737488351232) (w : World) :
    Calls Try.prog 30 #[cfV c (.slice p n cap) vl, .int .i64 v] w fun e w' => e = .returned (.bool true) ∧ Below w.heap.size w w' := by
  go_enter Try.func30, Try.ntmps30
  go_wp2
  go_ret
  exact ⟨rfl, (Below.refl _ _).alloc (Nat.le_refl _) _⟩
theorem has_no (c : Cf) (p : Option Addr) (n cap : Nat) (vl : Value) (v : Int) (h : ¬ (0 ≤ v ∧ v < n)) (hn : n ≤ 140737488351232) (w : World) :
    Calls Try.prog 30 #[cfV c (.slice p n cap) vl, .int .i64 v] w fun e w' => e = .returned (.bool false) ∧ Below w.heap.size w w' := by
  rcases (by omega : v < 0 ∨ (0 ≤ v ∧ (n : Int) ≤ v)) with h1 | ⟨h1, h2⟩
  · clear h
    go_enter Try.func30, Try.ntmps30
    go_wp2
    go_ret
    exact ⟨rfl, (Below.refl _ _).alloc (Nat.le_refl _) _⟩
  · have hF : decide (v < (n : Int)) = false := by simp; omega
    clear h h2
    go_enter Try.func30, Try.ntmps30
    go_wp2
    go_ret
    exact ⟨rfl, (Below.refl _ _).alloc (Nat.le_refl _) _⟩
end Go.Proofs.Ytnbifmkcdnfkhaa
