/- UsageQuiet: for every input the law answers true, and each argument reads afterwards as it read before; no condition but the given statement's own (each argument is a value of its type). -/
import Derived.Test.YtlpdafldabfiaaaGreatC3
import Derived.Test.YtlpdafldabfiaaaGreatC8
import Derived.Test.YtlpdafldabfiaaaGreatUsageQuiet
namespace Go.Proofs.YtlpdafldabfiaaaGreat.usageQuiet
open Go.ChangeShapes Go.WideShapes Go.ChangeAt Go.RowKit
set_option linter.unusedVariables false
set_option maxRecDepth 100000
theorem cells54 : Tryz.prog.cellsOf 54 = 1 := by kernel_rfl
theorem runs : LawRuns 5 Tryz.f5 := by
  intro H enc W base args ds p hval hA hlt hz
  rw [Tryz.params5] at hA hval hz
  obtain ⟨v0, vs0, d0, ds0, p0, q0, hargs, rfl, rfl, h0, r0⟩ := trodAll_cons hA
  obtain ⟨v1, vs1, d1, ds1, p1, q1, rfl, rfl, rfl, h1, r1⟩ := trodAll_cons r0
  obtain ⟨rfl, rfl, rfl⟩ := trodAll_nil r1
  obtain rfl : args = #[v0, v1] := by cases args; simp_all
  obtain ⟨k0, vp0, vl0, vb0, va0, vk0, rfl, wd0, wf0, hp0, hl0, hb0, ha0, hk0⟩ := ak_at (hval 0 59 v0 rfl rfl) h0 (fun x hx => hlt x (by simp [hx]))
  obtain ⟨z1, l1, w1, c1⟩ := ints_at Tryz.underlying60 Tryz.underlying54 cells54 (hval 1 60 v1 rfl rfl) h1 (fun x hx => hlt x (by simp [hx]))
  exact UsageQuiet_calls W k0 vp0 vl0 vb0 va0 vk0 wd0 wf0 hp0 hl0 hb0 ha0 hk0 v1 z1 l1 w1 c1
theorem lifted (os : Os) (started : os.Started) (H : Type) (enc : TypeId × Value → H) :
    ReturnsInHanded {} Tryz.checked os 5 .any (Rows.usageQuietSpec.pre6 enc Tryz.prog Tryz.f5 Rows.usageQuietRow.domain false) (Rows.usageQuietSpec.post enc Tryz.prog Tryz.f5 false true false false) :=
  returnsInHanded_of_change_sized (C := Tryz.checked) law_own started (by kernel_rfl) Tryz.func5
    (ChangeSpec.witness6 (enc := enc) (C := Tryz.checked) false ⟨#[], #[.agg #[.int .i64 0, .int .i64 0, .int .i64 0, .int .i64 0, .int .i64 0, .int .i64 0, .slice none 0 0, .slice none 0 0, .int .u8 0, .int .u32 0, .int .u16 0, .slice none 0 0, .slice none 0 0, .slice none 0 0], .slice none 0 0], []⟩ 8 (by kernel_rfl) (by kernel_rfl) (by kernel_rfl) (by kernel_rfl))
    fun W base args ds gs before hval hW _ hz _ => law_contract runs rfl (fun ds hl => by
      rw [Tryz.params5] at hl
      match ds, hl with
      | [d0, d1], _ => rfl) (by kernel_rfl) Tryz.underlying4 (by rw [Tryz.params5]; intro t ht; exact of_decide_eq_true (List.all_eq_true.1 (show (Tryz.f5.params.toList.all fun t => decide (Tryz.prog.readableRec t = true ∧ t < Tryz.prog.types.size)) = true from by kernel_rfl) t (by rw [Tryz.params5]; exact ht))) hval hW hz
theorem proved : Rows.UsageQuietSaid :=
  OpenClaim.holds_of_wide 5 Tryz.f5 rfl rfl rfl rfl rfl rfl rfl ⟨rfl, rfl, rfl, rfl, rfl⟩ rfl rfl rfl rfl rfl (by kernel_rfl) Tryz.func5 (by kernel_rfl)
    (of_decide_eq_true (by kernel_rfl)) (by unfold Func.isWrapper; first | (rw [if_pos (by decide +kernel)]; kernel_rfl) | (rw [if_neg (by decide +kernel)]; exact ⟨rfl, rfl⟩))
    (fun os started H enc _ => lifted os started H enc)
#print axioms proved
end Go.Proofs.YtlpdafldabfiaaaGreat.usageQuiet
