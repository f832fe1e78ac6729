/- PoolMany: for every input the law answers true, and each argument reads afterwards as it read before; no condition but the given statement's own (each argument is a value of its type). -/
import Derived.Test.YtpapcblgojfooaaLaw
import Derived.Test.YtpapcblgojfooaaPoolMany
namespace Go.Proofs.Ytpapcblgojfooaa.poolMany
open Go.ChangeShapes Go.WideShapes Go.ChangeAt Go.RowKit
set_option linter.unusedVariables false
set_option maxRecDepth 100000
theorem cells5 : Try.prog.cellsOf 5 = 1 := by kernel_rfl
theorem cells73 : Try.prog.cellsOf 73 = 1 := by kernel_rfl
theorem runs : LawRuns 7 Try.f7 := by
  intro H enc W base args ds p hval hA hlt hz
  rw [Try.params7] at hA hval hz
  obtain ⟨v0, vs0, d0, ds0, p0, q0, hargs, rfl, rfl, h0, r0⟩ := trodAll_cons hA
  obtain ⟨v1, vs1, d1, ds1, p1, q1, rfl, rfl, rfl, h1, r1⟩ := trodAll_cons r0
  obtain ⟨v2, vs2, d2, ds2, p2, q2, rfl, rfl, rfl, h2, r2⟩ := trodAll_cons r1
  obtain ⟨rfl, rfl, rfl⟩ := trodAll_nil r2
  obtain rfl : args = #[v0, v1, v2] := by cases args; simp_all
  obtain ⟨k0, vp0, vl0, ve0, vk0, rfl, wd0, wf0, hp0, hl0, he0, hk0⟩ := po_at (hval 0 29 v0 rfl rfl) h0 (fun x hx => hlt x (by simp [hx]))
  obtain ⟨z1, l1, w1, c1⟩ := ints_at Try.underlying70 Try.underlying73 cells73 (hval 1 70 v1 rfl rfl) h1 (fun x hx => hlt x (by simp [hx]))
  obtain ⟨z2, l2, w2, c2⟩ := ints_at Try.underlying71 Try.underlying5 cells5 (hval 2 71 v2 rfl rfl) h2 (fun x hx => hlt x (by simp [hx]))
  exact PoolMany_calls W k0 vp0 vl0 ve0 vk0 wd0 wf0 hp0 hl0 he0 hk0 v1 z1 l1 w1 c1 v2 z2 l2 w2 c2
theorem lifted (os : Os) (started : os.Started) (H : Type) (enc : TypeId × Value → H) :
    ReturnsInHanded {} Try.checked os 7 .any (Rows.poolManySpec.pre6 enc Try.prog Try.f7 Rows.poolManyRow.domain false) (Rows.poolManySpec.post enc Try.prog Try.f7 false true false false) :=
  returnsInHanded_of_change_sized (C := Try.checked) law_own started (by kernel_rfl) Try.func7
    (ChangeSpec.witness6 (enc := enc) (C := Try.checked) false ⟨#[], #[.agg #[.int .i64 0, .int .i64 0, .int .i64 0, .int .i64 0, .int .i64 0, .int .i64 0, .slice none 0 0, .slice none 0 0, .int .u8 0, .int .u32 0, .int .u8 0, .int .u32 0, .slice none 0 0, .slice none 0 0], .slice none 0 0, .slice none 0 0], []⟩ 8 (by kernel_rfl) (by kernel_rfl) (by kernel_rfl) (by kernel_rfl))
    fun W base args ds gs before hval hW _ hz _ => law_contract runs rfl (fun ds hl => by
      rw [Try.params7] at hl
      match ds, hl with
      | [d0, d1, d2], _ => rfl) (by kernel_rfl) Try.underlying4 (by rw [Try.params7]; intro t ht; exact of_decide_eq_true (List.all_eq_true.1 (show (Try.f7.params.toList.all fun t => decide (Try.prog.readableRec t = true ∧ t < Try.prog.types.size)) = true from by kernel_rfl) t (by rw [Try.params7]; exact ht))) hval hW hz
theorem proved : Rows.PoolManySaid :=
  OpenClaim.holds_of_wide 7 Try.f7 rfl rfl rfl rfl rfl rfl rfl ⟨rfl, rfl, rfl, rfl, rfl⟩ rfl rfl rfl rfl rfl (by kernel_rfl) Try.func7 (by kernel_rfl)
    (of_decide_eq_true (by kernel_rfl)) (by unfold Func.isWrapper; first | (rw [if_pos (by decide +kernel)]; kernel_rfl) | (rw [if_neg (by decide +kernel)]; exact ⟨rfl, rfl⟩))
    (fun os started H enc _ => lifted os started H enc)
#print axioms proved
end Go.Proofs.Ytpapcblgojfooaa.poolMany
