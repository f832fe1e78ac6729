/- What ranges over an iterator: slices.Collect; paths, how long they are, whether one stands on them. -/
import Derived.Test.YtnbifmkcdnfkhaaTreeUp
namespace Go.Proofs.Ytnbifmkcdnfkhaa
open Go.ChangeShapes Go.WideShapes Go.ChangeAt Go.RowKit Go.Shelf
attribute [local go_sem] Oper.semAt_some
set_option linter.unusedVariables false
variable {w0 w w' : World} {F0 : Nat → Prop} {L : List Asn}
theorem take_snoc {xs : List Int} {i : Nat} {d : Int} (h : i < xs.length) : xs.take (i + 1) = xs.take i ++ [xs.getD i d] := by
  rw [List.take_succ_eq_append_getElem h]; simp only [List.getD, List.getElem?_eq_getElem h, Option.getD_some]
theorem intC_snoc (xs : List Int) (x : Int) : intC (xs ++ [x]) = intC xs ++ [.int .i64 x] := by simp [intC]
set_option maxHeartbeats 1000000 in
theorem AppendSeq_any {gf : Nat} {lb : Array Value} {xs : List Int} {It : Asn} (hen : ∀ args w, (callFunc gf args).run Try.prog w = .ok (.enter gf args) w)
    (hseq : ∀ n, SeqSep Fence.wide n Try.prog gf lb (fun i => #[.int .i64 (xs.getD i (-1))]) xs.length It w0 F0 L) (hlen : xs.length ≤ 1000000) (h : Own w0 F0 (It :: L) w) :
    Calls Try.prog 32 #[.slice none 0 0, .func (.func gf) #[] lb] w (RetRow w0 F0 L 3 1 xs.length (intC xs)) := by
  refine (callsIn_wide (n := 3)).1 ?_
  have H0 := Lib.hid (h.rowNil (e := 3) (size := 1)).swap
  have HS := Lib.hid (hseq 2)
  obtain ⟨i0, hi0, hz0, hz1, hz2⟩ := info_parts Try.info_int
  clear h hseq
  refine callsIn_of_wp_marks Try.func32 rfl trivial ?_ rfl
  simp only [Try.ntmps32, List.size_toArray, List.length_cons, List.length_nil, Nat.reduceAdd, Nat.reduceSub, Array.replicate_succ, Array.replicate_zero, List.push_toArray, List.append_toArray, List.nil_append, List.cons_append]
  gi_wp2_with fail
  obtain ⟨B, hB⟩ : ∃ B, B = w.heap.size := ⟨_, rfl⟩
  rw [← hB]
  have HO := Lib.hid (H0.out.new (.cells #[.slice none 0 0] 22))
  rw [← hB] at HO
  have HB := Lib.hid hB
  clear hB
  refine wpIn_rangeFunc_sep rfl (by omega) (gf := gf) (lb := lb) rfl trivial hen HS.out (fun _ => rfl)
    (fun i => ex fun v : Value => star (blk B (.cells #[v] 22 (0, 0))) (row v 3 1 i (intC (xs.take i)))) (fun _ _ => pur False) ?h0
    (fun i => { tmps := #[.slice none 0 0, .func (.func gf) #[] lb, .pointer (some ⟨B, 0, none⟩), undef, .slice none 0 0, .int .i64 (xs.getD i (-1)), .func (.func gf) #[] lb, .int .i64 (xs.getD i (-1)), undef, undef, undef, undef, undef], defers := [] }) ?assign ?body ?done ?stop
  case h0 =>
    exact HO.out.swap.under fun _ _ h => Own.exI (A := fun v : Value => star (blk B (.cells #[v] 22 (0, 0))) (row v 3 1 0 (intC (xs.take 0)))) _ h.join
  case assign =>
    intro l i W K hK
    gi_wp2
    exact hK
  case body =>
    intro l i R W hi hO
    obtain ⟨v, hO⟩ := hO.swap.exE
    have hO := hO.part
    have c0 : W.cell? ⟨B, 0, none⟩ = some v := hO.cell (i := 0) rfl
    have hO2 := hO.swap
    obtain ⟨p, cap, rfl⟩ := row_slice hO2
    have H1 := Lib.hid (hO2.alloc (.cells #[.int .i64 (xs.getD i (-1))] 3))
    have ho0 := hO.size
    have HI := Lib.hid (show intC (xs.take i) ++ [.int .i64 (xs.getD i (-1))] = intC (xs.take (i + 1)) by
      rw [take_snoc (d := -1) hi, intC_snoc])
    have b1 : i + 1 ≤ maxLen := by unfold maxLen; omega
    have b2 : (i + 1) * 8 ≤ 140737488355328 := by omega
    clear hO hO2
    generalize xs.getD i (-1) = x at H1 HI ⊢
    gi_wp2_with (gi_at_builtin; refine wpListIn_append_row rfl _ _ 22 rfl 3 i0 _ Try.underlying22 hi0 hz0 hz1 hz2 rfl (by decide) rfl H1.out ⟨W.heap.size, 0, none⟩ 1 1 [.int .i64 x] rfl rfl (news_at W [.int .i64 x] _ _ rfl) (by simp [Value.oneCell']) b1 b2 ?_; intro v' w1 hO hg hn; obtain ⟨p', cap', rfl⟩ := row_slice hO; have d0 : w1.cell? ⟨B, 0, none⟩ = some (.slice p i cap) := hO.swap.cell (i := 0) rfl; have df : w1.frozen? ⟨B, 0, none⟩ = false := hO.swap.unfrozen; have HO2 := Lib.hid (hO.swap.set 0 (.slice p' (i + 1) cap')); clear hO hg hn c0)
    have h := HO2.out
    rw [HI.out] at h
    exact (Own.exI (A := fun v : Value => star (blk B (.cells #[v] 22 (0, 0))) (row v 3 1 (i + 1) (intC (xs.take (i + 1))))) _ h.join).swap
  case done =>
    intro D W hO
    have hK := hO.block
    obtain ⟨v, hO⟩ := hO.swap.exE
    have hO := hO.part
    have c0 : W.cell? ⟨B, 0, none⟩ = some v := hO.cell (i := 0) rfl
    obtain ⟨p, cap, rfl⟩ := row_slice hO.drop
    have HO2 := Lib.hid (hO.drop.swap.put (.deferred none)).drop
    have HK := Lib.hid hK
    clear hO hK
    gi_wp2
    refine ⟨by simp, .inl ⟨_, _, rfl, run_takeDeferred HK.out, ?_⟩⟩
    exact ⟨_, results_tmp rfl _ _ _, _, rfl, by have := HO2.out; rwa [List.take_length] at this⟩
  case stop =>
    intro D c i W _ h
    exact h.swap.purE.1.elim
theorem Collect_any {gf : Nat} {lb : Array Value} {xs : List Int} {It : Asn} (hen : ∀ args w, (callFunc gf args).run Try.prog w = .ok (.enter gf args) w)
    (hseq : ∀ n, SeqSep Fence.wide n Try.prog gf lb (fun i => #[.int .i64 (xs.getD i (-1))]) xs.length It w0 F0 L) (hlen : xs.length ≤ 1000000) (h : Own w0 F0 (It :: L) w) :
    Calls Try.prog 27 #[.func (.func gf) #[] lb] w (RetRow w0 F0 L 3 1 xs.length (intC xs)) := by
  have HA := Lib.hid (AppendSeq_any hen hseq hlen h)
  clear hen hseq h
  go_enter Try.func27, Try.ntmps27
  go_wp2_with fail
  refine HA.out.mono ?_
  rintro e w1 ⟨v, rfl, hO⟩
  obtain ⟨p, cap, rfl⟩ := row_slice hO
  have HO := Lib.hid hO
  clear hO
  go_wp2
  go_ret
  exact ⟨_, rfl, HO.out⟩
theorem upward_enters : ∀ args w, (callFunc 33 args).run Try.prog w = .ok (.enter 33 args) w := enters_of Try.func33 (by kernel_rfl) rfl
/-- The iterator's things, new. -/
theorem upward_new (c : Cf) (vp vl : Value) (v : Int) (h : Own w0 F0 L w) (b : Nat) (hb : b = w.heap.size) :
    Own w0 F0 (star (blk b (cfO c vp vl)) (blk (b + 1) (nodeO v)) :: L) ((w.alloc (cfO c vp vl)).alloc (nodeO v)) := by
  have := (h.new (cfO c vp vl)).new (nodeO v)
  rw [World.size_alloc] at this
  rw [hb]; exact this.swap.join
theorem Path_any (c : Cf) (ht : Tr c.ps) {vp vl : Value} (hp : IntsAt w .i64 vp c.ps) (hl : IntsAt w .i64 vl c.ls) (v : Int) (h : Own w0 F0 L w) :
    Calls Try.prog 14 #[cfV c vp vl, .int .i64 v] w (RetRow w0 F0 L 3 1 (path c.ps v).length (intC (path c.ps v))) := by
  refine Calls.mono (R := RetRow w (fun _ => False) [] 3 1 (path c.ps v).length (intC (path c.ps v))) ?_ fun e w' ⟨u, he, hO⟩ => ⟨u, he, h.lift hO⟩
  obtain ⟨pp, cp, rfl⟩ := hp.slice
  obtain ⟨pl, cl, rfl⟩ := hl.slice
  have h1 := (Own.start w).alloc (cfO c (.slice pp c.ps.length cp) (.slice pl c.ls.length cl))
  have h2 := upward_new c (.slice pp c.ps.length cp) (.slice pl c.ls.length cl) v h1 _ rfl
  have HC := Lib.hid (Collect_any (lb := #[.pointer (some ⟨w.heap.size + 1, 0, none⟩), .pointer (some ⟨w.heap.size + 1 + 1, 0, none⟩)]) upward_enters (fun n => upward_seq (w0 := w) (F0 := fun _ => False) (L := []) n c ht pp cp (.slice pl c.ls.length cl) (w.heap.size + 1) (w.heap.size + 1 + 1) v (fun w' h => hp.below h.toBelow)) (by have := path_len12 ht v; omega) (by simpa using h2))
  have HU := fun w => Lib.hid (upward_any c pp c.ps.length cp pl c.ls.length cl v w)
  clear h1 h2 hp hl h
  go_enter Try.func14, Try.ntmps14
  go_wp2_with fail
  refine (HU _).out.mono ?_
  rintro e w1 ⟨rfl, rfl⟩
  go_wp2_with fail
  refine HC.out.mono ?_
  rintro e w2 ⟨u, rfl, hO⟩
  obtain ⟨p, cap, rfl⟩ := row_slice hO
  have HO := Lib.hid hO
  clear hO
  go_wp2
  go_ret
  exact ⟨_, rfl, HO.out⟩
end Go.Proofs.Ytnbifmkcdnfkhaa
