import Derived.Test.YtmacnldbeflklaaPackRowParts
import Derived.Test.YtmacnldbeflklaaLaw
import Derived.Deep.QuietTactic
import Derived.BigQuiet
namespace Go.Proofs.Ytmacnldbeflklaa
open Go.ChangeShapes Go.WideShapes Go.ChangeAt Go.RowKit
set_option linter.unusedVariables false
theorem Try.info_int : (Try.prog.info? 3).map (fun i => (i.zero, i.size, i.bytes)) = some (some (.int .i64 0), 1, 8) := by kernel_rfl

theorem PackRow_big (p : Option Addr) (a : Int) (len cap : Nat) (hm : len ≤ 9223372036854775807) (h : 300 < len) (w : World) :
    Calls Try.prog 8 #[.int .i64 a, .slice p len cap] w fun e w' => e = .returned (.bool true) ∧ Below w.heap.size w w' := by
  go_enter Try.func8, Try.ntmps8
  go_wp2_with fail
  refine (head_any _).mono ?_
  rintro e w' ⟨rfl, rfl⟩
  go_wp2_with fail
  go_ret
  exact ⟨rfl, Below.refl _ _⟩

theorem PackRow_empty (p : Option Addr) (a : Int) (cap : Nat) (l0 : -9223372036854775808 ≤ a) (l1 : a ≤ 9223372036854775807) (w : World) :
    Calls Try.prog 8 #[.int .i64 a, .slice p 0 cap] w fun e w' => e = .returned (.bool true) ∧ Below w.heap.size w w' := by
  have hv := pver_bd a
  have hp := Lib.hid (show pver a % 4294967296 = pver a by omega)
  have ht : (pver a).tmod 4294967296 = pver a := by rw [Int.tmod_eq_emod_of_nonneg hv.1]; exact hp.out
  go_enter Try.func8, Try.ntmps8
  go_wp2_with fail
  refine (head_any _).mono ?_
  rintro e w' ⟨rfl, rfl⟩
  go_wp2_with fail
  refine wp_loop_rounds 1 ?_
  rw [rounds_succ]
  go_wp2_with fail
  refine (Version_any _ l0 l1 _).mono ?_
  rintro e w' ⟨rfl, rfl⟩
  go_wp2_with fail
  refine (Version_any _ l0 l1 _).mono ?_
  rintro e w' ⟨rfl, rfl⟩
  go_wp2_with fail
  go_ret
  exact ⟨rfl, Below.refl _ _⟩
theorem Value_q (x z : Int) (h2 : -2147483648 ≤ z) (h3 : z ≤ 2147483647) (w : World) :
    Calls Try.prog 16 #[.int .i64 (nxt x z)] w fun e w' => e = .returned (.int .i64 z) ∧ w' = w := by
  have hb := nxt_bd x z
  refine (Value_any _ hb.1 hb.2 w).mono ?_
  rintro e w' ⟨rfl, rfl⟩
  exact ⟨by rw [nxt_pval x z h2 h3], rfl⟩

set_option maxRecDepth 100000 in
theorem PackRow_main (a : Int) (b off len cap : Nat) (zs : List Int) (l0 : -9223372036854775808 ≤ a) (l1 : a ≤ 9223372036854775807) (hz : zs.length = len) (hl : len ≤ 300) (w : World)
    (hzb : ∀ j, j < zs.length → -2147483648 ≤ zs.getD j 0 ∧ zs.getD j 0 ≤ 2147483647) (hb : b < w.heap.size)
    (hc : ∀ j, j < len → w.cell? ⟨b, off + j, none⟩ = some (.int .i32 (zs.getD j 0))) :
    Calls Try.prog 8 #[.int .i64 a, .slice (some ⟨b, off, none⟩) len cap] w fun e w' => e = .returned (.bool true) ∧ Below w.heap.size w w' := by
  obtain ⟨i0, hi, hz0, hz1, hz2⟩ := info_parts Try.info_int
  go_enter Try.func8, Try.ntmps8
  go_wp2_with fail
  refine (head_any _).mono ?_
  rintro e w' ⟨rfl, rfl⟩
  go_wp2_with fail
  go_loopw [6, 7, 8] (fun x v i wr => ∃ k : Nat, k ≤ len ∧ i = .int .i64 k ∧ x = .int .i64 (wrd a zs k) ∧ wr.ownsRow w.heap.size 3 1 v k (metL a zs k) ∧ Below w.heap.size w wr)
    (fun _ _ i _ => len - (intOf i).toNat)
  case atStart => exact ⟨0, Nat.zero_le _, rfl, rfl, World.ownsRow_nil _ _ _ _, Below.refl _ _⟩
  case round =>
    obtain ⟨k, hk, rfl, rfl, hown, hnx⟩ := hrel
    by_cases hlt : k < len
    · obtain ⟨z, hzz⟩ : ∃ z, z = zs.getD k 0 := ⟨_, rfl⟩
      have hzk := hzb k (by omega)
      have hcx : wr.cell? ⟨b, off + k, none⟩ = some (.int .i32 z) := by rw [hzz]; exact (hnx.cell hb).trans (hc k hlt)
      rw [← hzz] at hzk
      have Hz := Lib.hid hzz
      have hwb := wrd_bd a zs l0 l1 k
      have Hzb := Lib.hid hzb
      clear hzz hc hzb
      obtain ⟨x, hx⟩ : ∃ x, x = wrd a zs k := ⟨_, rfl⟩
      rw [← hx] at hwb ⊢
      have Hx := Lib.hid hx
      clear hx
      go_wp2_with (at_builtin; refine wpList_append_own _ rfl _ _ 30 rfl w.heap.size 3 i0 (.int .i64 0) 1 8 Try.underlying30 hi hz0 hz1 hz2 rfl (by decide) _ _ _ rfl (hown.alloc _) ⟨wr.heap.size, 0, none⟩ 1 1 [.int .i64 x] rfl rfl ?c1 ?c2 ?c3 ?c4 ?c5 ?_)
      case c1 =>
        intro j u hj
        match j, hj with
        | 0, hj => simp at hj; subst hj; simp [Addr.add]
      case c2 => intro u hu; simp at hu; subst hu; rfl
      case c3 => unfold maxLen; omega
      case c4 => omega
      case c5 => have := hnx.size; simp; omega
      intro v' w1 hown' hgrow _
      have hnx1 : Below w.heap.size w w1 := (hnx.alloc hnx.size _).grown hgrow (by have := hnx.size; simp; omega) (fun j hj => (hown.lt j hj).1)
      have hcx1 : w1.cell? ⟨b, off + k, none⟩ = some (.int .i32 z) := by
        rw [hnx1.cell (p := ⟨b, off + k, none⟩) hb, ← hnx.cell (p := ⟨b, off + k, none⟩) hb]; exact hcx
      rw [Hx.out, metL_succ] at hown'
      obtain ⟨g, cp, rfl⟩ : ∃ g cp, v' = .slice (some ⟨g, 0, none⟩) (k + 1) cp := by
        rcases hown'.2 with ⟨_, h0⟩ | ⟨g, cp, cur, h0, _⟩
        · omega
        · exact ⟨g, cp, h0⟩
      have Hown := Lib.hid hown'
      have Hgr := Lib.hid hgrow
      have Hnx := Lib.hid hnx
      have Howno := Lib.hid hown
      clear hown' hgrow hcx hnx hown
      have hyb := nxt_bd x z
      have HV := Lib.hid (Value_q x z hzk.1 hzk.2)
      go_wp2_with fail
      refine (Next_yes _ _ hzk.1 hzk.2 hwb.1 hwb.2 _).mono ?_
      rintro e w' ⟨rfl, rfl⟩
      rw [show sg (pmk ((pver x + 1) % 4294967296) z) = nxt x z from rfl]
      go_wp2_with fail
      go_quiet ((go_at_call 16; exact Calls.quiet_of_same (HV.out _)))
      go_wp2_with fail
      have hget : ∀ j, j < k + 1 → (w1.drewN nq).cell? ⟨g, j, none⟩ = some (.int .i64 (wrd a zs j)) := fun j hj => by
        rw [show (w1.drewN nq).cell? ⟨g, j, none⟩ = w1.cell? ⟨g, j, none⟩ from rfl, Hown.out.cellAt j (by omega)]
        exact metL_get? a zs (k + 1) j hj
      have Hget := Lib.hid hget
      have Hne := Lib.hid (show ∀ j, j < k + 1 → (wrd a zs j == nxt x z) = false from fun j hj => beq_f (by
        rw [Hx.out, Hz.out]
        exact wrd_ne a zs Hzb.out (by omega) hj (by omega)))
      have hks : k + 1 ≤ 300 := by omega
      clear hget
      go_loop [11] (fun j => ∃ j' : Nat, j' ≤ k + 1 ∧ j = .int .i64 j') (fun j => k + 1 - (intOf j).toNat)
      case atStart => exact ⟨0, Nat.zero_le _, rfl⟩
      case round =>
        obtain ⟨j, hj, rfl⟩ := hrel
        by_cases hjl : j < k + 1
        · have hcj := Hget.out j hjl
          have hnj := Hne.out j hjl
          go_wp2
          go_round
          case rel => exact ⟨j + 1, by omega, by go_num⟩
          case measure => simp [intOf]; omega
        · go_wp2
          go_roundw
          case rel =>
            refine ⟨k + 1, by omega, by go_num, ?_, Hown.out, hnx1.trans ⟨rfl, rfl, rfl, Nat.le_refl _, fun _ _ => rfl⟩⟩
            rw [Hx.out, Hz.out]; rfl
          case measure => simp [intOf]; omega
    · have hkl : k = len := by omega
      subst hkl
      have hwb := wrd_bd a zs l0 l1 k
      have hp := Lib.hid (wrd_pver a zs hzb k (by omega))
      have hv := pver_bd a
      have ht : (pver a + ↑k).tmod 4294967296 = (pver a + ↑k) % 4294967296 := Int.tmod_eq_emod_of_nonneg (by omega)
      go_wp2_with fail
      refine (Version_any _ hwb.1 hwb.2 _).mono ?_
      rintro e w' ⟨rfl, rfl⟩
      rw [hp.out]
      go_wp2_with fail
      refine (Version_any _ l0 l1 _).mono ?_
      rintro e w' ⟨rfl, rfl⟩
      go_wp2_with fail
      go_ret
      exact ⟨rfl, hnx⟩

theorem PackRow_calls (W : World) (a : Int) (l0 : IntKind.i64.min ≤ a) (l1 : a ≤ IntKind.i64.max) (v : Value) (zs : List Int) (hl : zs.length ≤ maxLen) (hw : ∀ n ∈ zs, (Lit.int .i32 n).wf = true) (hv : IntsAt W .i32 v zs) :
    Calls Try.prog 8 #[.int .i64 a, v] W fun e w' => e = .returned (.bool true) ∧ Below W.heap.size W w' := by
  have l0' : -9223372036854775808 ≤ a := l0
  have l1' : a ≤ 9223372036854775807 := l1
  rcases hv with ⟨rfl, p, cap, rfl⟩ | ⟨hp, b, off, cap, rfl, hb, hc⟩
  · exact PackRow_empty p a cap l0' l1' W
  · by_cases h300 : zs.length ≤ 300
    · refine PackRow_main a b off zs.length cap zs l0' l1' rfl h300 W (fun j hj => ?_) hb hc
      have hm := law_wf (hw (zs.getD j 0) (by simp [List.getD, hj]))
      exact hm
    · unfold maxLen at hl
      exact PackRow_big _ a zs.length cap (by omega) (by omega) W
end Go.Proofs.Ytmacnldbeflklaa
