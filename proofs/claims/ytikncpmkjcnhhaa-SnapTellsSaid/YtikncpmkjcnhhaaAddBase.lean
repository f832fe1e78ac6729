/- What breadlinelaw06's laws share. -/
import Derived.Test.YtikncpmkjcnhhaaAddFacts
import Derived.Test.YtikncpmkjcnhhaaAddArg
import Derived.Test.YtikncpmkjcnhhaaPokes
import Derived.Lib.QuietBelow
import Derived.BigQuiet
import Derived.Deep.QuietTactic
import Derived.Deep.RegionHeld3
namespace Go.Proofs.Ytikncpmkjcnhhaa
open Go.ChangeShapes Go.WideShapes Go.ChangeAt Go.RowKit Go.Shelf
set_option linter.unusedVariables false
theorem Own.intsN {w0 w : World} {F0 : Nat → Prop} {L : List Asn} {v : Value} {n : Nat} {zs : List Int} (h : Own w0 F0 (row v 3 1 n (intC zs) :: L) w) (hn : zs.length = n) : IntsAt w .i64 v zs := by
  subst hn; exact h.intsAt
theorem lWords2 {W w : World} {L : List Asn} (c : Cn) (vr vl : Value) (hc : c.Wf) (hn1 : c.ver.length ≤ 20) (hn2 : c.val.length ≤ 20) (hr : IntsAt W .u32 vr c.ver) (hv : IntsAt W .i32 vl c.val) (h : Own W NoF L w) :
    Calls Try.prog 11 #[cnV c vr vl] w (RetRow W NoF L 3 1 (wlay c c.s).length (intC (wlay c c.s))) := by
  rw [wlay_len]; exact lWords_any c vr vl hc hn1 hn2 hr hv h
/-- A machine alone, played. -/
theorem Play_alone {w0 w : World} {F0 : Nat → Prop} {L : List Asn} {ws : List Int} {lg : List Acc} (g m : Nat) (p : AP) (t : Int) (f : Int) (t0 : 0 ≤ t) (t1 : t ≤ 1000) (hf0 : 6 ≤ f) (hf1 : f ≤ 1000)
    (hp : p.Ok) (hw : WOk p ws) (hlg : lg.length ≤ 900000) (h : Own w0 F0 (mchA g (stV p (s0A t)) :: memA 95 m ws lg :: L) w) :
    Calls Try.prog 15 #[.pointer (some ⟨m, 0, none⟩), .iface 64 (.pointer (some ⟨g, 0, none⟩)), .slice none 0 0, .int .i64 f] w fun e w' =>
      ∃ (n : Nat) (ws' : List Int) (lg' : List Acc), e = .returned (.tuple #[.int .i64 n, .bool true]) ∧ Alone p ws ws' n ∧ lg'.length = lg.length + n ∧ Own w0 F0 (mchA g .nilFunc :: memA 95 m ws' lg' :: L) w' := by
  have hx := bg_bd t t0 t1
  obtain ⟨n, s', ws', lg', e1, h9, hl, A⟩ := alone_any hp hw g (bg t) hx.1 hx.2 f.toNat (by omega) lg
  have H := Add_play g m p _ (s0A t) ws lg [] f (by decide) (pksAt_nil w) (by omega) hp (s0_ok t t0 t1) hw hlg (fun _ _ _ h => h) h
  have e2 : playF (addM g p) [] f.toNat 0 (s0A t) ws lg = (n, true, s', ws', lg') := e1
  rw [e2] at H
  refine H.mono ?_
  rintro e w' ⟨rfl, hO⟩
  simp only [addM] at hO
  rw [stV_nine h9] at hO
  exact ⟨n, ws', lg', rfl, A, hl, hO⟩
/-- Pokes that came in as a law's argument. -/
theorem pks_in {W : World} {v : Value} {rows : List (List Int)} (hr : ∀ r ∈ rows, r.length = 3)
    (hw : ∀ r ∈ rows, ∀ j, j < 3 → (Lit.int (([.i64, .i64, .i64] : List IntKind).getD j .i64) (r.getD j 0)).wf = true) (hv : RowAt W v rows.length (rowsC [.i64, .i64, .i64] rows)) :
    (pksOf rows).length = rows.length ∧ PksAt W v (pksOf rows) ∧ (∀ p ∈ pksOf rows, I64 p.at_ ∧ I64 p.w ∧ I64 p.x) := by
  have hl : (pksOf rows).length = rows.length := by simp [pksOf]
  refine ⟨hl, ?_, fun p hp => ?_⟩
  · unfold PksAt
    rw [hl, ← pksOf_C hr]; exact hv
  · obtain ⟨r, hr1, rfl⟩ := List.mem_map.1 hp
    have h0 := law_wf (hw r hr1 0 (by decide))
    have h1 := law_wf (hw r hr1 1 (by decide))
    have h2 := law_wf (hw r hr1 2 (by decide))
    exact ⟨h0, h1, h2⟩
end Go.Proofs.Ytikncpmkjcnhhaa
