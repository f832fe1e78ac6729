/- CallWrong: for every input the law answers true, and each argument reads afterwards as it read before; no condition but the given statement's own (each argument is a value of its type). -/
import Derived.Test.YtdglnpfnjinbkaaGreatC2
import Derived.Test.YtdglnpfnjinbkaaGreatC6
import Derived.Test.YtdglnpfnjinbkaaGreatCallWrong
namespace Go.Proofs.YtdglnpfnjinbkaaGreat.callWrong
open Go.ChangeShapes Go.WideShapes Go.ChangeAt Go.RowKit
set_option linter.unusedVariables false
set_option maxRecDepth 100000
theorem runs : zUv 6 Tryz.f6 := by
 intro H enc W base args ds p hval hA hlt hz
 rw [Tryz.params6] at hA hval hz
 obtain ⟨v0, vs0, d0, ds0, p0, q0, hargs, rfl, rfl, h0, r0⟩ := trodAll_cons hA
 obtain ⟨v1, vs1, d1, ds1, p1, q1, rfl, rfl, rfl, h1, r1⟩ := trodAll_cons r0
 obtain ⟨v2, vs2, d2, ds2, p2, q2, rfl, rfl, rfl, h2, r2⟩ := trodAll_cons r1
 obtain ⟨v3, vs3, d3, ds3, p3, q3, rfl, rfl, rfl, h3, r3⟩ := trodAll_cons r2
 obtain ⟨v4, vs4, d4, ds4, p4, q4, rfl, rfl, rfl, h4, r4⟩ := trodAll_cons r3
 obtain ⟨rfl, rfl, rfl⟩ := trodAll_nil r4
 obtain rfl : args = #[v0, v1, v2, v3, v4] := by cases args; simp_all
 obtain ⟨k0, vp0, vl0, rfl, wd0, hp0, hl0⟩ := zT4 (hval 0 24 v0 rfl rfl) h0 (fun x hx => hlt x (by simp [hx]))
 obtain ⟨a1, rfl, rfl, rfl, w1⟩ := open_int Tryz.underlying3 (hval 1 3 v1 rfl rfl) h1
 have b1 := zYq w1
 obtain ⟨a2, rfl, rfl, rfl, w2⟩ := open_int Tryz.underlying3 (hval 2 3 v2 rfl rfl) h2
 have b2 := zYq w2
 obtain ⟨a3, rfl, rfl, rfl, w3⟩ := open_int Tryz.underlying3 (hval 3 3 v3 rfl rfl) h3
 have b3 := zYq w3
 obtain ⟨a4, rfl, rfl, rfl, w4⟩ := open_int Tryz.underlying26 (hval 4 26 v4 rfl rfl) h4
 have b4 := zYq w4
 exact zSh W k0 vp0 vl0 wd0 hp0 hl0 a1 b1.1 b1.2 a2 b2.1 b2.2 a3 b3.1 b3.2 a4 b4.1 b4.2
theorem lifted (os : Os) (started : os.Started) (H : Type) (enc : TypeId × Value → H) :
 ReturnsInHanded {} Tryz.checked os 6 .any (Rows.callWrongSpec.pre6 enc Tryz.prog Tryz.f6 Rows.callWrongRow.domain false) (Rows.callWrongSpec.post enc Tryz.prog Tryz.f6 false true false false) :=
 returnsInHanded_of_change_sized (C := Tryz.checked) zT2 started (by kernel_rfl) Tryz.func6
  (ChangeSpec.witness6 (enc := enc) (C := Tryz.checked) false ⟨#[], #[.agg #[.int .i64 0, .int .i64 0, .int .i64 0, .int .i64 0, .int .i64 0, .int .i64 0, .slice none 0 0, .slice none 0 0], .int .i64 0, .int .i64 0, .int .i64 0, .int .u16 0], []⟩ 8 (by kernel_rfl) (by kernel_rfl) (by kernel_rfl) (by kernel_rfl))
  fun W base args ds gs before hval hW _ hz _ => zY3 runs rfl (fun ds hl => by
   rw [Tryz.params6] at hl
   match ds, hl with
   | [d0, d1, d2, d3, d4], _ => rfl) (by kernel_rfl) Tryz.underlying4 (by rw [Tryz.params6]; intro t ht; exact of_decide_eq_true (List.all_eq_true.1 (show (Tryz.f6.params.toList.all fun t => decide (Tryz.prog.readableRec t = true ∧ t < Tryz.prog.types.size)) = true from by kernel_rfl) t (by rw [Tryz.params6]; exact ht))) hval hW hz
theorem proved : Rows.CallWrongSaid :=
 OpenClaim.holds_of_wide 6 Tryz.f6 rfl rfl rfl rfl rfl rfl rfl ⟨rfl, rfl, rfl, rfl, rfl⟩ rfl rfl rfl rfl rfl (by kernel_rfl) Tryz.func6 (by kernel_rfl)
  (of_decide_eq_true (by kernel_rfl)) (by unfold Func.isWrapper; first | (rw [if_pos (by decide +kernel)]; kernel_rfl) | (rw [if_neg (by decide +kernel)]; exact ⟨rfl, rfl⟩))
  (fun os started H enc _ => lifted os started H enc)
#print axioms proved
end Go.Proofs.YtdglnpfnjinbkaaGreat.callWrong
