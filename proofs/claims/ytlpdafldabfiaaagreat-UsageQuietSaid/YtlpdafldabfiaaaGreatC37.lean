/- Texts of elder layers, one behind the other: AddPoked, AddRef2. -/
import Derived.Test.YtlpdafldabfiaaaGreatC19
import Derived.Test.YtlpdafldabfiaaaGreatC36
import Derived.Deep.RegionWith
section
namespace Go.Proofs.YtlpdafldabfiaaaGreat
open Go.ChangeShapes Go.WideShapes Go.ChangeAt Go.RowKit Go.Shelf
set_option linter.unusedVariables false
set_option maxRecDepth 100000
end Go.Proofs.YtlpdafldabfiaaaGreat
end
section
namespace Go.Proofs.YtlpdafldabfiaaaGreat
open Go.ChangeShapes Go.WideShapes Go.ChangeAt Go.RowKit Go.Shelf
set_option linter.unusedVariables false
set_option maxRecDepth 100000
variable {w0 w w' : World} {F0 : Nat → Prop} {L : List Asn} {T : TypeId} {m : Nat} {ws : List Int} {lg : List Acc}
def rmA (k : Nat) (p : AP) (s : AS) : Asn := blk k (rO p.b p.S p.g p.d s.x s.at_ s.l s.i s.w s.v)
def refM (k : Nat) (p : AP) : Mach AS where
  asn s := rmA k p s
  step s ws lg := stepA p s ws lg
  ok s ws lg := p.Ok ∧ WOk p ws ∧ SOk p s ∧ lg.length < 1000000
theorem rAdd_steps (k m : Nat) (T : TypeId) (p : AP) : StepsBy w0 F0 (refM k p) 86 (.pointer (some ⟨k, 0, none⟩)) T m := by
  intro L s ws lg w ⟨hp, hw, hs, hl⟩ h
  simp only [refM, rmA] at h ⊢
  obtain ⟨at_, x, l, i, wv, v⟩ := s
  obtain ⟨hat, x0, x1, hll, hl8, hlI, hi, hiI, hwI, hwg, hv2, hvI⟩ := hs
  simp only at hat x0 x1 hll hl8 hlI hi hiI hwI hwg hv2 hvI h ⊢
  have hS := hp.S.bd
  have hlen := hw.len
  have hb := hp.b
  have hmost := hw.most
  have hlv := hw.live.bd
  have hx : -9223372036854775808 ≤ x ∧ x ≤ 9223372036854775807 := by omega
  have hg := hp.g1
  match at_, hat with
  | 0, _ =>
    have hm : x % ws.getD (p.b + 3) 0 = (((x % ws.getD (p.b + 3) 0).toNat : Nat) : Int) := by
      rw [Int.toNat_of_nonneg (Int.emod_nonneg _ (by omega))]
    simp only [stepA]
    have hK := rStep_0 p.b i p.S p.g p.d x l wv v hb (by omega) (by omega) hl _ (by omega) x1 (by omega) rfl hlv.1 (by omega) h
    rw [hm] at hK
    exact hK
  | 1, _ =>
    have hi' := hi (by decide) (by decide)
    simp only [stepA]
    have hI := hw.wf (p.b + 4 + i)
    by_cases hz : -p.g < pval (ws.getD (p.b + 4 + i) 0) + p.d ∧ pval (ws.getD (p.b + 4 + i) 0) + p.d < p.g
    · rw [if_pos hz]
      exact rStep_1y p.b i p.S p.g p.d x l wv v hb (by omega) (by omega) hl _ (by omega) rfl hI hp.g0 hp.g1 hp.d0 hp.d1 hz h
    · rw [if_neg hz]
      exact rStep_1n p.b i p.S p.g p.d x l wv v hb (by omega) (by omega) hl _ (by omega) rfl hI hp.g0 hp.g1 hp.d0 hp.d1 hz h
  | 2, _ =>
    have hi' := hi (by decide) (by decide)
    have hv' := hv2 rfl
    by_cases he : ws.getD (p.b + 4 + i) 0 = wv
    · simp only [stepA, if_pos he]
      exact rStep_2y p.b i p.S p.g p.d x l wv v hb (by omega) (by omega) hl (by omega) hwI (by omega) (by omega) he h
    · simp only [stepA, if_neg he, missA]
      by_cases hc : l < p.S
      · simp only [if_pos hc]
        exact rStep_2nmy p.b i p.S p.g p.d x l wv v hb (by omega) (by omega) hl (by omega) hwI (by omega) (by omega) he hc h
      · simp only [if_neg hc]
        exact rStep_2nmn p.b i p.S p.g p.d x l wv v hb (by omega) (by omega) hl (by omega) hwI (by omega) (by omega) he hc hx.1 hx.2 h
  | 3, _ =>
    have hi' := hi (by decide) (by decide)
    simp only [stepA]
    exact rStep_3 p.b i p.S p.g p.d x l wv v hb (by omega) (by omega) hl (by omega) h
  | 4, _ =>
    have hi' := hi (by decide) (by decide)
    by_cases he : ws.getD (p.b + 4 + i) 0 = wv
    · simp only [stepA, if_pos he]
      exact rStep_4y p.b i p.S p.g p.d x l wv v hb (by omega) (by omega) hl (by omega) hwI he h
    · simp only [stepA, if_neg he]
      exact rStep_4n p.b i p.S p.g p.d x l wv v hb (by omega) (by omega) hl (by omega) hwI he h
  | 5, _ =>
    have hi' := hi (by decide) (by decide)
    simp only [stepA]
    exact rStep_5 p.b i p.S p.g p.d x l wv v hb (by omega) (by omega) hl (by omega) h
  | 6, _ =>
    have hi' := hi (by decide) (by decide)
    simp only [stepA]
    exact rStep_6 p.b i p.S p.g p.d x l wv v hb (by omega) (by omega) hl (by omega) h
  | 7, _ =>
    have hi' := hi (by decide) (by decide)
    simp only [stepA, missA]
    by_cases hc : l < p.S
    · simp only [if_pos hc]
      exact rStep_7my p.b i p.S p.g p.d x l wv v hb (by omega) (by omega) hl (by omega) hc h
    · simp only [if_neg hc]
      exact rStep_7mn p.b i p.S p.g p.d x l wv v hb (by omega) (by omega) hl (by omega) hc hx.1 hx.2 h
  | 8, _ =>
    have hl' := (hll (by decide) (by decide)).1.bd
    by_cases he : ws.getD (p.b + 3) 0 = l
    · have hf : (ws.getD (p.b + 3) 0 == l) = true := by rw [beq_iff_eq]; exact he
      simp only [stepA, if_pos he, hf]
      exact rStep_8y p.b i p.S p.g p.d x l wv v hb (by omega) (by omega) hl (by omega) (by omega) hl'.2 hx.1 hx.2 he h
    · have hf : (ws.getD (p.b + 3) 0 == l) = false := beq_f he
      simp only [stepA, if_neg he, hf]
      exact rStep_8n p.b i p.S p.g p.d x l wv v hb (by omega) (by omega) hl (by omega) (by omega) hl'.2 hx.1 hx.2 he h
  | 9, _ =>
    simp only [stepA]
    exact rStep_9 p.b i p.S p.g p.d x l wv v hb (by omega) (by omega) hl h
  | k + 10, hk => omega
theorem rNewM_any (p : AP) (t : Int) (t0 : 0 ≤ t) (t1 : t ≤ 1000) (h : Own w0 F0 L w) :
    Calls Tryz.prog 119 #[.int .i64 p.b, .int .i64 p.S, .int .i64 p.g, .int .i64 p.d, .int .i64 t] w fun e w' =>
      ∃ k, e = .returned (.pointer (some ⟨k, 0, none⟩)) ∧ Own w0 F0 (rmA k p (s0A t) :: L) w' := by
  have HB := fun w => Lib.hid (rBegin_any t t0 t1 w)
  have H1 := Lib.hid (fun x => h.new (rO p.b p.S p.g p.d x 0 0 0 0 0))
  unfold rO at H1
  have Hs := Lib.hid (show rmA w.heap.size p (s0A t) = blk w.heap.size (rO p.b p.S p.g p.d (bg t) 0 0 0 0 0) from rfl)
  unfold rO at Hs
  clear h
  go_enter Tryz.func119, Tryz.ntmps119
  go_wp2_with fail
  refine (HB _).out.mono ?_
  rintro e w1 ⟨rfl, rfl⟩
  go_wp2_with fail
  go_ret
  exact ⟨_, rfl, by rw [Hs.out]; exact H1.out _⟩
end Go.Proofs.YtlpdafldabfiaaaGreat
end
