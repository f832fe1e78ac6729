/- MemCas. -/
import Derived.Test.YtlgobicbclihfaaMemLaw
namespace Go.Proofs.Ytlgobicbclihfaa
open Go.ChangeShapes Go.WideShapes Go.ChangeAt Go.RowKit Go.Shelf
set_option linter.unusedVariables false
abbrev NoF : Nat → Prop := fun _ => False
theorem IntsAt.cells {W : World} {k : IntKind} {p : Option Addr} {cap : Nat} {zs : List Int} (h : IntsAt W k (.slice p zs.length cap) zs) (h0 : 0 < zs.length) : ∃ b off, p = some ⟨b, off, none⟩ ∧ b < W.heap.size ∧ ∀ j, j < zs.length → W.cell? ⟨b, off + j, none⟩ = some (.int k (zs.getD j 0)) := by
  rcases h with ⟨rfl, _⟩ | ⟨h0, b, off, cap', hv, hlt, hc⟩
  · simp at h0
  · injection hv with hv _ _
    exact ⟨b, off, hv, hlt, hc⟩
theorem MemCas_calls (W : World) (x : Int) (l0 : IntKind.i64.min ≤ x) (l1 : x ≤ IntKind.i64.max) (v : Value) (zs : List Int) (hl : zs.length ≤ maxLen) (hw : ∀ n ∈ zs, (Lit.int .i64 n).wf = true) (hv : IntsAt W .i64 v zs) :
    Calls Try.prog 8 #[.int .i64 x, v] W fun e w' => e = .returned (.bool true) ∧ Below W.heap.size W w' := by
  obtain ⟨p, cap, rfl⟩ := hv.slice
  have Hh := Lib.hid (head_any (Own.start W))
  have hlm : zs.length ≤ 9223372036854775807 := by unfold maxLen at hl; omega
  clear l0 l1 hl hw
  by_cases hbig : 100 < zs.length
  · go_enter Try.func8, Try.ntmps8
    go_wp2_with fail
    refine Hh.out.mono ?_
    rintro e w1 ⟨rfl, hO⟩
    go_wp2_with fail
    go_ret
    exact ⟨rfl, hO.toBelow⟩
  · have HV := Lib.hid hv
    clear hv
    go_enter Try.func8, Try.ntmps8
    go_wp2_with fail
    refine Hh.out.mono ?_
    rintro e w1 ⟨rfl, hO⟩
    have H1 := Lib.hid (New_any 1 (by omega) hO)
    clear hO Hh
    go_wp2_with fail
    refine H1.out.mono ?_
    rintro e w2 ⟨m, rfl, hO⟩
    have H2 := Lib.hid (Poke_yes 0 x (by decide) hO)
    clear hO H1
    go_wp2_with fail
    refine H2.out.mono ?_
    rintro e w3 ⟨rfl, hO⟩
    change Own W NoF [memA 60 m [x] []] w3 at hO
    have H3 := Lib.hid (Load_any 0 (by simp) (by simp) hO)
    clear hO H2
    go_wp2_with fail
    refine H3.out.mono ?_
    rintro e w4 ⟨rfl, hO⟩
    have HO := Lib.hid (show Own W NoF [memA 60 m [x] [⟨1, 0, x, 0, false⟩]] w4 from hO)
    clear hO H3
    go_wp2_with fail
    go_loopw [8, 9] (fun vn vi wr => ∃ (k : Nat) (now : Int) (lg : List Acc), k ≤ zs.length ∧ vi = .int .i64 k ∧ vn = .int .i64 now ∧ lg.length = k + 1 ∧ Own W NoF [memA 60 m [now] lg] wr) (fun _ vi _ => zs.length - (intOf vi).toNat)
    case atStart => exact ⟨0, x, _, Nat.zero_le _, rfl, rfl, rfl, HO.out⟩
    case round =>
      obtain ⟨k, now, lg, hk, rfl, rfl, hlg, hO⟩ := hrel
      have Hlg := Lib.hid hlg
      clear HO hlg
      by_cases hlt : k < zs.length
      · obtain ⟨b, off, rfl, hbW, hc⟩ := HV.out.cells (by omega)
        have hcW := hc k hlt
        clear hc
        generalize zs.getD k 0 = z at hcW
        have hck : wr.cell? ⟨b, off + k, none⟩ = some (.int .i64 z) := by rw [hO.toBelow.cell hbW]; exact hcW
        have HcW := Lib.hid hcW
        clear hcW
        by_cases hx : now = x
        · subst hx
          have H4 := Lib.hid (Cas_yes 0 now z (by simp) (by have := Hlg.out; omega) rfl hO)
          clear hO
          go_wp2_with fail
          refine H4.out.mono ?_
          rintro e w5 ⟨rfl, hO⟩
          change Own W NoF [memA 60 m [z] (lg ++ [⟨3, 0, now, z, true⟩])] w5 at hO
          have hck5 : w5.cell? ⟨b, off + k, none⟩ = some (.int .i64 z) := by rw [hO.toBelow.cell hbW]; exact HcW.out
          have HO := Lib.hid hO
          clear H4 hck hO
          go_wp2_with fail
          go_roundw
          case rel => exact ⟨k + 1, z, _, by omega, by go_num, rfl, by have := Hlg.out; simp; omega, HO.out⟩
          case measure => simp [intOf]; omega
        · have H4 := Lib.hid (Cas_no (ws := [now]) 0 x z (by simp) (by have := Hlg.out; omega) hx hO)
          have hF : (now == x) = false := by simp [hx]
          clear hO hx
          go_wp2_with fail
          refine H4.out.mono ?_
          rintro e w5 ⟨rfl, hO⟩
          have HO := Lib.hid hO
          clear H4 hck hO
          go_wp2_with fail
          go_roundw
          case rel => exact ⟨k + 1, now, _, by omega, by go_num, rfl, by have := Hlg.out; simp; omega, HO.out⟩
          case measure => simp [intOf]; omega
      · have H4 := Lib.hid (Load_any 0 (by simp) (by have := Hlg.out; omega) hO)
        clear hO
        go_wp2_with fail
        refine H4.out.mono ?_
        rintro e w5 ⟨rfl, hO⟩
        clear H4
        go_wp2_with fail
        go_ret
        exact ⟨rfl, hO.toBelow⟩
end Go.Proofs.Ytlgobicbclihfaa
