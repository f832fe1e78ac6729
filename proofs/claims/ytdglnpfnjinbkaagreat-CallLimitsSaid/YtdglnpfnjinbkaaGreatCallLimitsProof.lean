/- CallLimits: for every input the law answers true, and each argument reads afterwards as it read before; no condition but the given statement's own (each argument is a value of its type). -/
import Derived.Test.YtdglnpfnjinbkaaGreatC2
import Derived.Test.YtdglnpfnjinbkaaGreatC3
import Derived.Test.YtdglnpfnjinbkaaGreatC6
import Derived.Test.YtdglnpfnjinbkaaGreatCallLimits
namespace Go.Proofs.YtdglnpfnjinbkaaGreat.callLimits
open Go.ChangeShapes Go.WideShapes Go.ChangeAt Go.RowKit
set_option linter.unusedVariables false
set_option maxRecDepth 100000
theorem runs : zUv 7 Tryz.f7 := by
 intro H enc W base args ds p hval hA hlt hz
 rw [Tryz.params7] at hA hval hz
 obtain ⟨v0, vs0, d0, ds0, p0, q0, hargs, rfl, rfl, h0, r0⟩ := trodAll_cons hA
 obtain ⟨v1, vs1, d1, ds1, p1, q1, rfl, rfl, rfl, h1, r1⟩ := trodAll_cons r0
 obtain ⟨rfl, rfl, rfl⟩ := trodAll_nil r1
 obtain rfl : args = #[v0, v1] := by cases args; simp_all
 obtain ⟨k0, vp0, vl0, rfl, wd0, hp0, hl0⟩ := zT4 (hval 0 24 v0 rfl rfl) h0 (fun x hx => hlt x (by simp [hx]))
 obtain ⟨z1, l1, e1, w1, c1⟩ := zWz ([.i64, .i64, .i64] : List IntKind) Tryz.underlying25 Tryz.underlying40 (by kernel_rfl) (by kernel_rfl) rfl (fun j f hf => match j, hf with | 0, hf => by cases hf; exact Tryz.underlying3 | 1, hf => by cases hf; exact Tryz.underlying3 | 2, hf => by cases hf; exact Tryz.underlying3 | q + 3, hf => by simp at hf) (hval 1 25 v1 rfl rfl) h1
 exact zU9 W k0 vp0 vl0 wd0 hp0 hl0 v1 z1 l1 e1 w1 c1
theorem lifted (os : Os) (started : os.Started) (H : Type) (enc : TypeId × Value → H) :
 ReturnsInHanded {} Tryz.checked os 7 .any (Rows.callLimitsSpec.pre6 enc Tryz.prog Tryz.f7 Rows.callLimitsRow.domain false) (Rows.callLimitsSpec.post enc Tryz.prog Tryz.f7 false true false false) :=
 returnsInHanded_of_change_sized (C := Tryz.checked) zT2 started (by kernel_rfl) Tryz.func7
  (ChangeSpec.witness6 (enc := enc) (C := Tryz.checked) false ⟨#[], #[.agg #[.int .i64 0, .int .i64 0, .int .i64 0, .int .i64 0, .int .i64 0, .int .i64 0, .slice none 0 0, .slice none 0 0], .slice none 0 0], []⟩ 8 (by kernel_rfl) (by kernel_rfl) (by kernel_rfl) (by kernel_rfl))
  fun W base args ds gs before hval hW _ hz _ => zY3 runs rfl (fun ds hl => by
   rw [Tryz.params7] at hl
   match ds, hl with
   | [d0, d1], _ => rfl) (by kernel_rfl) Tryz.underlying4 (by rw [Tryz.params7]; intro t ht; exact of_decide_eq_true (List.all_eq_true.1 (show (Tryz.f7.params.toList.all fun t => decide (Tryz.prog.readableRec t = true ∧ t < Tryz.prog.types.size)) = true from by kernel_rfl) t (by rw [Tryz.params7]; exact ht))) hval hW hz
theorem proved : Rows.CallLimitsSaid :=
 OpenClaim.holds_of_wide 7 Tryz.f7 rfl rfl rfl rfl rfl rfl rfl ⟨rfl, rfl, rfl, rfl, rfl⟩ rfl rfl rfl rfl rfl (by kernel_rfl) Tryz.func7 (by kernel_rfl)
  (of_decide_eq_true (by kernel_rfl)) (by unfold Func.isWrapper; first | (rw [if_pos (by decide +kernel)]; kernel_rfl) | (rw [if_neg (by decide +kernel)]; exact ⟨rfl, rfl⟩))
  (fun os started H enc _ => lifted os started H enc)
#print axioms proved
end Go.Proofs.YtdglnpfnjinbkaaGreat.callLimits
