/- Texts of elder layers, one behind the other: TreeUp, TreeUp2, AdmitCode. -/
import Derived.Test.YtjfjjmlocgmicaaGreatE14
import Derived.Test.YtjfjjmlocgmicaaGreatE19
import Derived.Shelf.AbstractIn
import Derived.Lib.QuietBelow
section
namespace Go.Proofs.YtjfjjmlocgmicaaGreat
open Go.ChangeShapes Go.WideShapes Go.ChangeAt Go.RowKit Go.Shelf
attribute [local go_sem] Oper.semAt_some
set_option linter.unusedVariables false
variable {w0 w w' : World} {F0 : Nat → Prop} {L : List Asn}
theorem wide_deep {n : Nat} : Fence.wide.depth.isSome = true → 1 ≤ n := fun h => by simp [Fence.wide] at h
def nodeO (z : Int) : Obj := .cells #[.int .i64 z] 3 (0, 0)
theorem upward_any (c : Cf) (pp : Option Addr) (np cp : Nat) (pl : Option Addr) (nl cl : Nat) (v : Int) (w : World) :
    Calls Tryz.prog 153 #[cfV c (.slice pp np cp) (.slice pl nl cl), .int .i64 v] w fun e w' =>
      e = .returned (.func (Fn.func 163) #[] #[.pointer (some ⟨w.heap.size, 0, none⟩), .pointer (some ⟨w.heap.size + 1, 0, none⟩)]) ∧ w' = (w.alloc (cfO c (.slice pp np cp) (.slice pl nl cl))).alloc (nodeO v) := by
  go_enter Tryz.func153, Tryz.ntmps153
  go_wp2
  go_ret
  exact ⟨rfl, rfl⟩
def nodeAt (b : Nat) (w : World) : Nat := match w.cell? ⟨b, 0, none⟩ with
  | some (.int _ z) => (z + 1).toNat
  | _ => 0
theorem nodeAt_eq {b : Nat} {z : Int} (h : w.cell? ⟨b, 0, none⟩ = some (.int .i64 z)) : nodeAt b w = (z + 1).toNat := by unfold nodeAt; rw [h]
def nodeK (ps : List Int) (v : Int) (k : Nat) : Int := if (path ps v).length = 0 then v else (path ps v).getD k (-1)
set_option maxHeartbeats 1000000 in
theorem upward_seq (n : Nat) (c : Cf) (ht : Tr c.ps) (pp : Option Addr) (cp : Nat) (vl : Value) (bc bn : Nat) (v : Int) (hp : ∀ w, Own w0 F0 L w → IntsAt w .i64 (.slice pp c.ps.length cp) c.ps) :
    SeqSep Fence.wide n Tryz.prog 163 #[.pointer (some ⟨bc, 0, none⟩), .pointer (some ⟨bn, 0, none⟩)] (fun i => #[.int .i64 ((path c.ps v).getD i (-1))]) (path c.ps v).length
      (star (blk bc (cfO c (.slice pp c.ps.length cp) vl)) (blk bn (nodeO v))) w0 F0 L := by
  intro l J Jx W hY h0
  have H0 := Lib.hid h0.part
  have HP := Lib.hid hp
  have HY := Lib.hid hY
  have hn1 := ht.n1
  clear h0 hp hY
  refine callsIn_of_wp Tryz.func163 rfl trivial ?_ rfl
  simp only [Tryz.ntmps163, List.size_toArray, List.length_cons, List.length_nil, Nat.reduceAdd, Nat.reduceSub, Array.replicate_succ, Array.replicate_zero, List.push_toArray, List.append_toArray, List.nil_append, List.cons_append]
  gi_wp2
  gi_loopw [] (fun wr => ∃ (k : Nat) (z : Int), k ≤ (path c.ps v).length ∧ Hid (z = nodeK c.ps v k) ∧ Own w0 F0 (blk bc (cfO c (.slice pp c.ps.length cp) vl) :: blk bn (nodeO z) :: J k :: L) wr) (fun wr => nodeAt bn wr)
  case atStart =>
    refine ⟨0, v, Nat.zero_le _, ?_, H0.out⟩
    unfold nodeK Hid
    split
    · rfl
    · by_cases h : 0 ≤ v ∧ v < c.ps.length
      · rw [path_zero ht v h.1 h.2]
      · rw [path_out v (by omega)] at *; simp at *
  case round =>
    obtain ⟨k, z, hk, hz, hO⟩ := hrel
    have d0 : wr.cell? ⟨bc, 0, none⟩ = some (.int .i64 c.th) := hO.cell (i := 0) rfl
    have d1 : wr.cell? ⟨bc, 1, none⟩ = some (.int .i64 c.st) := hO.cell (i := 1) rfl
    have d2 : wr.cell? ⟨bc, 2, none⟩ = some (.int .i64 c.ga) := hO.cell (i := 2) rfl
    have d3 : wr.cell? ⟨bc, 3, none⟩ = some (.int .i64 c.le) := hO.cell (i := 3) rfl
    have d4 : wr.cell? ⟨bc, 4, none⟩ = some (.int .i64 c.re) := hO.cell (i := 4) rfl
    have d5 : wr.cell? ⟨bc, 5, none⟩ = some (.int .i64 c.ti) := hO.cell (i := 5) rfl
    have d6 : wr.cell? ⟨bc, 6, none⟩ = some (.slice pp c.ps.length cp) := hO.cell (i := 6) rfl
    have d7 : wr.cell? ⟨bc, 7, none⟩ = some vl := hO.cell (i := 7) rfl
    have dn : wr.cell? ⟨bn, 0, none⟩ = some (.int .i64 z) := hO.swap.cell (i := 0) rfl
    have HO := Lib.hid hO
    have Hz := Lib.hid hz.out
    clear hO hz H0
    by_cases hlt : k < (path c.ps v).length
    · have hvin : 0 ≤ v ∧ v < c.ps.length := by
        by_cases h : 0 ≤ v ∧ v < c.ps.length
        · exact h
        · rw [path_out v (by omega)] at hlt; simp at hlt
      have hnx := path_next ht v (by omega) hvin.2 k hlt
      have hz1 : z = (path c.ps v).getD k (-1) := by rw [Hz.out]; unfold nodeK; rw [if_neg (by omega)]
      obtain ⟨m, rfl⟩ : ∃ m : Nat, z = m := ⟨z.toNat, by omega⟩
      have hm : m < c.ps.length := by omega
      have hpar : c.ps.getD m 0 = (path c.ps v).getD (k + 1) (-1) := by
        have := hnx.2.2
        rw [← hz1, par, Int.toNat_natCast] at this
        exact this
      have hfall := ht.fall m (by omega) (by omega)
      rw [par, Int.toNat_natCast] at hfall
      have HN := Lib.hid (show c.ps.getD m 0 = nodeK c.ps v (k + 1) by unfold nodeK; rw [if_neg (by omega)]; exact hpar)
      have HY1 := Lib.hid (fun W1 h => HY.out k (star (blk bc (cfO c (.slice pp c.ps.length cp) vl)) (blk bn (nodeO m))) W1 hlt h)
      rw [← hz1] at HY1
      clear hz1 hpar hnx
      have HH := fun w => Lib.hid (callsIn_wide (n := n - 1).2 (tHas_yes c pp c.ps.length cp vl m (by omega) (by omega) (by omega) w))
      gi_wp2_with fail
      refine ⟨trivial, wide_deep, (HH _).out.mono ?_⟩
      rintro e w1 ⟨rfl, hB⟩
      have hO1 := HO.out.below hB
      have HO1 := Lib.hid hO1
      have e6 : w1.cell? ⟨bc, 6, none⟩ = some (.slice pp c.ps.length cp) := hO1.cell (i := 6) rfl
      have en : w1.cell? ⟨bn, 0, none⟩ = some (.int .i64 m) := hO1.swap.cell (i := 0) rfl
      obtain ⟨fn, tmps, assign, body, hy, hR⟩ := HY1.out w1 (hO1.under fun _ _ h => h).join
      have HR := Lib.hid hR
      have HD := Lib.hid (nodeAt_eq dn)
      clear d0 d1 d2 d3 d4 d5 d6 d7 dn HO HH HY1 hB hO1 hR
      gi_wp2_with fail
      refine ⟨wide_deep, HR.out.mono ?_⟩
      rintro e w2 (⟨rfl, hO2⟩ | ⟨rfl, hO2⟩)
      · have hO2 := hO2.part
        have f6 : w2.cell? ⟨bc, 6, none⟩ = some (.slice pp c.ps.length cp) := hO2.cell (i := 6) rfl
        have fn : w2.cell? ⟨bn, 0, none⟩ = some (.int .i64 m) := hO2.swap.cell (i := 0) rfl
        have ff : w2.frozen? ⟨bn, 0, none⟩ = false := hO2.swap.unfrozen
        obtain ⟨b, off, cap, he, hcell⟩ := (HP.out w2 hO2.drop.drop.drop).at (by omega)
        injection he with he1 he2 he3
        subst he1
        have fp := hcell m hm
        have HO3 := Lib.hid ((hO2.swap.set 0 (.int .i64 (c.ps.getD m 0))).swap)
        have HM := Lib.hid (show (((c.ps.getD m 0) + 1).toNat < ((m : Int) + 1).toNat) by omega)
        clear he2 he3 hcell hO2 HO1 e6 en hy HR
        generalize c.ps.getD m 0 = p at *
        gi_wp2_with fail
        go_roundw
        case rel => exact ⟨k + 1, p, by omega, HN, HO3.out⟩
        case measure => rw [HD.out, nodeAt_eq (HO3.out.swap.cell (i := 0) rfl)]; exact HM.out
      · gi_wp2_with fail
        go_end0
        exact ⟨⟨_, rfl⟩, .inr ⟨k, hlt, hO2.drop⟩⟩
    · have hout : ¬ (0 ≤ z ∧ z < c.ps.length) := by
        rw [Hz.out]; unfold nodeK
        split
        · intro h
          have := path_pos ht v h.1 h.2
          omega
        · rw [show (path c.ps v).getD k (-1) = -1 by simp [List.getD, List.getElem?_eq_none (show (path c.ps v).length ≤ k by omega)]]
          omega
      have HH := fun w => Lib.hid (callsIn_wide (n := n - 1).2 (tHas_no c pp c.ps.length cp vl z hout (by omega) w))
      have HK := Lib.hid (show k = (path c.ps v).length by omega)
      clear hout hlt
      gi_wp2_with fail
      refine ⟨trivial, wide_deep, (HH _).out.mono ?_⟩
      rintro e w1 ⟨rfl, hB⟩
      have HO1 := Lib.hid (HO.out.below hB)
      clear d0 d1 d2 d3 d4 d5 d6 d7 dn HO HH hB
      gi_wp2_with fail
      refine ⟨fun _ h => (by cases h), ?_⟩
      gi_wp2_with fail
      go_end0
      exact ⟨⟨_, rfl⟩, .inl (by rw [← HK.out]; exact HO1.out.drop.drop)⟩
end Go.Proofs.YtjfjjmlocgmicaaGreat
end
section
namespace Go.Proofs.YtjfjjmlocgmicaaGreat
open Go.ChangeShapes Go.WideShapes Go.ChangeAt Go.RowKit Go.Shelf
attribute [local go_sem] Oper.semAt_some
set_option linter.unusedVariables false
variable {w0 w w' : World} {F0 : Nat → Prop} {L : List Asn}
theorem take_snoc {xs : List Int} {i : Nat} {d : Int} (h : i < xs.length) : xs.take (i + 1) = xs.take i ++ [xs.getD i d] := by
  rw [List.take_succ_eq_append_getElem h]; simp only [List.getD, List.getElem?_eq_getElem h, Option.getD_some]
theorem intC_snoc (xs : List Int) (x : Int) : intC (xs ++ [x]) = intC xs ++ [.int .i64 x] := by simp [intC]
set_option maxHeartbeats 1000000 in
theorem AppendSeq_any {gf : Nat} {lb : Array Value} {xs : List Int} {It : Asn} (hen : ∀ args w, (callFunc gf args).run Tryz.prog w = .ok (.enter gf args) w)
    (hseq : ∀ n, SeqSep Fence.wide n Tryz.prog gf lb (fun i => #[.int .i64 (xs.getD i (-1))]) xs.length It w0 F0 L) (hlen : xs.length ≤ 1000000) (h : Own w0 F0 (It :: L) w) :
    Calls Tryz.prog 162 #[.slice none 0 0, .func (.func gf) #[] lb] w (RetRow w0 F0 L 3 1 xs.length (intC xs)) := by
  refine (callsIn_wide (n := 3)).1 ?_
  have H0 := Lib.hid (h.rowNil (e := 3) (size := 1)).swap
  have HS := Lib.hid (hseq 2)
  obtain ⟨i0, hi0, hz0, hz1, hz2⟩ := info_parts Tryz.info_int
  clear h hseq
  refine callsIn_of_wp_marks Tryz.func162 rfl trivial ?_ rfl
  simp only [Tryz.ntmps162, List.size_toArray, List.length_cons, List.length_nil, Nat.reduceAdd, Nat.reduceSub, Array.replicate_succ, Array.replicate_zero, List.push_toArray, List.append_toArray, List.nil_append, List.cons_append]
  gi_wp2_with fail
  obtain ⟨B, hB⟩ : ∃ B, B = w.heap.size := ⟨_, rfl⟩
  rw [← hB]
  have HO := Lib.hid (H0.out.new (.cells #[.slice none 0 0] 22))
  rw [← hB] at HO
  have HB := Lib.hid hB
  clear hB
  refine wpIn_rangeFunc_sep rfl (by omega) (gf := gf) (lb := lb) rfl trivial hen HS.out (fun _ => rfl)
    (fun i => ex fun v : Value => star (blk B (.cells #[v] 22 (0, 0))) (row v 3 1 i (intC (xs.take i)))) (fun _ _ => pur False) ?h0
    (fun i => { tmps := #[.slice none 0 0, .func (.func gf) #[] lb, .pointer (some ⟨B, 0, none⟩), undef, .slice none 0 0, .int .i64 (xs.getD i (-1)), .func (.func gf) #[] lb, .int .i64 (xs.getD i (-1)), undef, undef, undef, undef, undef], defers := [] }) ?assign ?body ?done ?stop
  case h0 =>
    exact HO.out.swap.under fun _ _ h => Own.exI (A := fun v : Value => star (blk B (.cells #[v] 22 (0, 0))) (row v 3 1 0 (intC (xs.take 0)))) _ h.join
  case assign =>
    intro l i W K hK
    gi_wp2
    exact hK
  case body =>
    intro l i R W hi hO
    obtain ⟨v, hO⟩ := hO.swap.exE
    have hO := hO.part
    have c0 : W.cell? ⟨B, 0, none⟩ = some v := hO.cell (i := 0) rfl
    have hO2 := hO.swap
    obtain ⟨p, cap, rfl⟩ := row_slice hO2
    have H1 := Lib.hid (hO2.alloc (.cells #[.int .i64 (xs.getD i (-1))] 3))
    have ho0 := hO.size
    have HI := Lib.hid (show intC (xs.take i) ++ [.int .i64 (xs.getD i (-1))] = intC (xs.take (i + 1)) by
      rw [take_snoc (d := -1) hi, intC_snoc])
    have b1 : i + 1 ≤ maxLen := by unfold maxLen; omega
    have b2 : (i + 1) * 8 ≤ 140737488355328 := by omega
    clear hO hO2
    generalize xs.getD i (-1) = x at H1 HI ⊢
    gi_wp2_with (gi_at_builtin; refine wpListIn_append_row rfl _ _ 22 rfl 3 i0 _ Tryz.underlying22 hi0 hz0 hz1 hz2 rfl (by decide) rfl H1.out ⟨W.heap.size, 0, none⟩ 1 1 [.int .i64 x] rfl rfl (news_at W [.int .i64 x] _ _ rfl) (by simp [Value.oneCell']) b1 b2 ?_; intro v' w1 hO hg hn; obtain ⟨p', cap', rfl⟩ := row_slice hO; have d0 : w1.cell? ⟨B, 0, none⟩ = some (.slice p i cap) := hO.swap.cell (i := 0) rfl; have df : w1.frozen? ⟨B, 0, none⟩ = false := hO.swap.unfrozen; have HO2 := Lib.hid (hO.swap.set 0 (.slice p' (i + 1) cap')); clear hO hg hn c0)
    have h := HO2.out
    rw [HI.out] at h
    exact (Own.exI (A := fun v : Value => star (blk B (.cells #[v] 22 (0, 0))) (row v 3 1 (i + 1) (intC (xs.take (i + 1))))) _ h.join).swap
  case done =>
    intro D W hO
    have hK := hO.block
    obtain ⟨v, hO⟩ := hO.swap.exE
    have hO := hO.part
    have c0 : W.cell? ⟨B, 0, none⟩ = some v := hO.cell (i := 0) rfl
    obtain ⟨p, cap, rfl⟩ := row_slice hO.drop
    have HO2 := Lib.hid (hO.drop.swap.put (.deferred none)).drop
    have HK := Lib.hid hK
    clear hO hK
    gi_wp2
    refine ⟨by simp, .inl ⟨_, _, rfl, run_takeDeferred HK.out, ?_⟩⟩
    exact ⟨_, results_tmp rfl _ _ _, _, rfl, by have := HO2.out; rwa [List.take_length] at this⟩
  case stop =>
    intro D c i W _ h
    exact h.swap.purE.1.elim
theorem Collect_any {gf : Nat} {lb : Array Value} {xs : List Int} {It : Asn} (hen : ∀ args w, (callFunc gf args).run Tryz.prog w = .ok (.enter gf args) w)
    (hseq : ∀ n, SeqSep Fence.wide n Tryz.prog gf lb (fun i => #[.int .i64 (xs.getD i (-1))]) xs.length It w0 F0 L) (hlen : xs.length ≤ 1000000) (h : Own w0 F0 (It :: L) w) :
    Calls Tryz.prog 152 #[.func (.func gf) #[] lb] w (RetRow w0 F0 L 3 1 xs.length (intC xs)) := by
  have HA := Lib.hid (AppendSeq_any hen hseq hlen h)
  clear hen hseq h
  go_enter Tryz.func152, Tryz.ntmps152
  go_wp2_with fail
  refine HA.out.mono ?_
  rintro e w1 ⟨v, rfl, hO⟩
  obtain ⟨p, cap, rfl⟩ := row_slice hO
  have HO := Lib.hid hO
  clear hO
  go_wp2
  go_ret
  exact ⟨_, rfl, HO.out⟩
theorem upward_enters : ∀ args w, (callFunc 163 args).run Tryz.prog w = .ok (.enter 163 args) w := enters_of Tryz.func163 (by kernel_rfl) rfl
theorem upward_new (c : Cf) (vp vl : Value) (v : Int) (h : Own w0 F0 L w) (b : Nat) (hb : b = w.heap.size) :
    Own w0 F0 (star (blk b (cfO c vp vl)) (blk (b + 1) (nodeO v)) :: L) ((w.alloc (cfO c vp vl)).alloc (nodeO v)) := by
  have := (h.new (cfO c vp vl)).new (nodeO v)
  rw [World.size_alloc] at this
  rw [hb]; exact this.swap.join
theorem Path_any (c : Cf) (ht : Tr c.ps) {vp vl : Value} (hp : IntsAt w .i64 vp c.ps) (hl : IntsAt w .i64 vl c.ls) (v : Int) (h : Own w0 F0 L w) :
    Calls Tryz.prog 144 #[cfV c vp vl, .int .i64 v] w (RetRow w0 F0 L 3 1 (path c.ps v).length (intC (path c.ps v))) := by
  refine Calls.mono (R := RetRow w (fun _ => False) [] 3 1 (path c.ps v).length (intC (path c.ps v))) ?_ fun e w' ⟨u, he, hO⟩ => ⟨u, he, h.lift hO⟩
  obtain ⟨pp, cp, rfl⟩ := hp.slice
  obtain ⟨pl, cl, rfl⟩ := hl.slice
  have h1 := (Own.start w).alloc (cfO c (.slice pp c.ps.length cp) (.slice pl c.ls.length cl))
  have h2 := upward_new c (.slice pp c.ps.length cp) (.slice pl c.ls.length cl) v h1 _ rfl
  have HC := Lib.hid (Collect_any (lb := #[.pointer (some ⟨w.heap.size + 1, 0, none⟩), .pointer (some ⟨w.heap.size + 1 + 1, 0, none⟩)]) upward_enters (fun n => upward_seq (w0 := w) (F0 := fun _ => False) (L := []) n c ht pp cp (.slice pl c.ls.length cl) (w.heap.size + 1) (w.heap.size + 1 + 1) v (fun w' h => hp.below h.toBelow)) (by have := path_len12 ht v; omega) (by simpa using h2))
  have HU := fun w => Lib.hid (upward_any c pp c.ps.length cp pl c.ls.length cl v w)
  clear h1 h2 hp hl h
  go_enter Tryz.func144, Tryz.ntmps144
  go_wp2_with fail
  refine (HU _).out.mono ?_
  rintro e w1 ⟨rfl, rfl⟩
  go_wp2_with fail
  refine HC.out.mono ?_
  rintro e w2 ⟨u, rfl, hO⟩
  obtain ⟨p, cap, rfl⟩ := row_slice hO
  have HO := Lib.hid hO
  clear hO
  go_wp2
  go_ret
  exact ⟨_, rfl, HO.out⟩
end Go.Proofs.YtjfjjmlocgmicaaGreat
end
section
namespace Go.Proofs.YtjfjjmlocgmicaaGreat
open Go.ChangeShapes Go.WideShapes Go.ChangeAt Go.RowKit Go.Shelf
set_option linter.unusedVariables false
set_option linter.unusedSimpArgs false
set_option maxRecDepth 100000
variable {w0 w w' W : World} {F0 : Nat → Prop} {L : List Asn} {T : TypeId} {m : Nat} {ws : List Int} {lg : List Acc}
def inO (z : Int) : Obj := .cells #[.int .i64 z] 3 (0, 0)
def ptr (b : Nat) : Value := .pointer (some ⟨b, 0, none⟩)
def clo (f : FuncId) (bs : Array Value) : Value := .func (Fn.func f) #[] bs
section
variable {c : Cf} {vp vl : Value} {kc : Nat} {v n t : Int}
end
section
variable {c : Cf} {pp pl : Option Addr} {np cp nl cl kc : Nat} {v n t : Int} {q : CP} {s : CS} {l : List (Nat × Obj)} {b b2 : Nat}
end
end Go.Proofs.YtjfjjmlocgmicaaGreat
end
