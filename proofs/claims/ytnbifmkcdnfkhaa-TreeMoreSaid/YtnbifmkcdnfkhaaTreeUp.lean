/- Paths are told by an iterator: upward, and what ranges over it. -/
import Derived.Test.YtnbifmkcdnfkhaaTree2
import Derived.Test.YtnbifmkcdnfkhaaRange
import Derived.Shelf.AbstractIn
namespace Go.Proofs.Ytnbifmkcdnfkhaa
open Go.ChangeShapes Go.WideShapes Go.ChangeAt Go.RowKit Go.Shelf
attribute [local go_sem] Oper.semAt_some
set_option linter.unusedVariables false
variable {w0 w w' : World} {F0 : Nat → Prop} {L : List Asn}
theorem wide_deep {n : Nat} : Fence.wide.depth.isSome = true → 1 ≤ n := fun h => by simp [Fence.wide] at h
def nodeO (z : Int) : Obj := .cells #[.int .i64 z] 3 (0, 0)
theorem upward_any (c : Cf) (pp : Option Addr) (np cp : Nat) (pl : Option Addr) (nl cl : Nat) (v : Int) (w : World) :
    Calls Try.prog 28 #[cfV c (.slice pp np cp) (.slice pl nl cl), .int .i64 v] w fun e w' =>
      e = .returned (.func (Fn.func 33) #[] #[.pointer (some ⟨w.heap.size, 0, none⟩), .pointer (some ⟨w.heap.size + 1, 0, none⟩)]) ∧ w' = (w.alloc (cfO c (.slice pp np cp) (.slice pl nl cl))).alloc (nodeO v) := by
  go_enter Try.func28, Try.ntmps28
  go_wp2
  go_ret
  exact ⟨rfl, rfl⟩
/-- How far a node is from below the first one. -/
def nodeAt (b : Nat) (w : World) : Nat := match w.cell? ⟨b, 0, none⟩ with
  | some (.int _ z) => (z + 1).toNat
  | _ => 0
theorem nodeAt_eq {b : Nat} {z : Int} (h : w.cell? ⟨b, 0, none⟩ = some (.int .i64 z)) : nodeAt b w = (z + 1).toNat := by unfold nodeAt; rw [h]
def nodeK (ps : List Int) (v : Int) (k : Nat) : Int := if (path ps v).length = 0 then v else (path ps v).getD k (-1)
set_option maxHeartbeats 1000000 in
theorem upward_seq (n : Nat) (c : Cf) (ht : Tr c.ps) (pp : Option Addr) (cp : Nat) (vl : Value) (bc bn : Nat) (v : Int) (hp : ∀ w, Own w0 F0 L w → IntsAt w .i64 (.slice pp c.ps.length cp) c.ps) :
    SeqSep Fence.wide n Try.prog 33 #[.pointer (some ⟨bc, 0, none⟩), .pointer (some ⟨bn, 0, none⟩)] (fun i => #[.int .i64 ((path c.ps v).getD i (-1))]) (path c.ps v).length
      (star (blk bc (cfO c (.slice pp c.ps.length cp) vl)) (blk bn (nodeO v))) w0 F0 L := by
  intro l J Jx W hY h0
  have H0 := Lib.hid h0.part
  have HP := Lib.hid hp
  have HY := Lib.hid hY
  have hn1 := ht.n1
  clear h0 hp hY
  refine callsIn_of_wp Try.func33 rfl trivial ?_ rfl
  simp only [Try.ntmps33, List.size_toArray, List.length_cons, List.length_nil, Nat.reduceAdd, Nat.reduceSub, Array.replicate_succ, Array.replicate_zero, List.push_toArray, List.append_toArray, List.nil_append, List.cons_append]
  gi_wp2
  gi_loopw [] (fun wr => ∃ (k : Nat) (z : Int), k ≤ (path c.ps v).length ∧ Hid (z = nodeK c.ps v k) ∧ Own w0 F0 (blk bc (cfO c (.slice pp c.ps.length cp) vl) :: blk bn (nodeO z) :: J k :: L) wr) (fun wr => nodeAt bn wr)
  case atStart =>
    refine ⟨0, v, Nat.zero_le _, ?_, H0.out⟩
    unfold nodeK Hid
    split
    · rfl
    · by_cases h : 0 ≤ v ∧ v < c.ps.length
      · rw [path_zero ht v h.1 h.2]
      · rw [path_out v (by omega)] at *; simp at *
  case round =>
    obtain ⟨k, z, hk, hz, hO⟩ := hrel
    have d0 : wr.cell? ⟨bc, 0, none⟩ = some (.int .i64 c.th) := hO.cell (i := 0) rfl
    have d1 : wr.cell? ⟨bc, 1, none⟩ = some (.int .i64 c.st) := hO.cell (i := 1) rfl
    have d2 : wr.cell? ⟨bc, 2, none⟩ = some (.int .i64 c.ga) := hO.cell (i := 2) rfl
    have d3 : wr.cell? ⟨bc, 3, none⟩ = some (.int .i64 c.le) := hO.cell (i := 3) rfl
    have d4 : wr.cell? ⟨bc, 4, none⟩ = some (.int .i64 c.re) := hO.cell (i := 4) rfl
    have d5 : wr.cell? ⟨bc, 5, none⟩ = some (.int .i64 c.ti) := hO.cell (i := 5) rfl
    have d6 : wr.cell? ⟨bc, 6, none⟩ = some (.slice pp c.ps.length cp) := hO.cell (i := 6) rfl
    have d7 : wr.cell? ⟨bc, 7, none⟩ = some vl := hO.cell (i := 7) rfl
    have dn : wr.cell? ⟨bn, 0, none⟩ = some (.int .i64 z) := hO.swap.cell (i := 0) rfl
    have HO := Lib.hid hO
    have Hz := Lib.hid hz.out
    clear hO hz H0
    by_cases hlt : k < (path c.ps v).length
    · have hvin : 0 ≤ v ∧ v < c.ps.length := by
        by_cases h : 0 ≤ v ∧ v < c.ps.length
        · exact h
        · rw [path_out v (by omega)] at hlt; simp at hlt
      have hnx := path_next ht v (by omega) hvin.2 k hlt
      have hz1 : z = (path c.ps v).getD k (-1) := by rw [Hz.out]; unfold nodeK; rw [if_neg (by omega)]
      obtain ⟨m, rfl⟩ : ∃ m : Nat, z = m := ⟨z.toNat, by omega⟩
      have hm : m < c.ps.length := by omega
      have hpar : c.ps.getD m 0 = (path c.ps v).getD (k + 1) (-1) := by
        have := hnx.2.2
        rw [← hz1, par, Int.toNat_natCast] at this
        exact this
      have hfall := ht.fall m (by omega) (by omega)
      rw [par, Int.toNat_natCast] at hfall
      have HN := Lib.hid (show c.ps.getD m 0 = nodeK c.ps v (k + 1) by unfold nodeK; rw [if_neg (by omega)]; exact hpar)
      have HY1 := Lib.hid (fun W1 h => HY.out k (star (blk bc (cfO c (.slice pp c.ps.length cp) vl)) (blk bn (nodeO m))) W1 hlt h)
      rw [← hz1] at HY1
      clear hz1 hpar hnx
      have HH := fun w => Lib.hid (callsIn_wide (n := n - 1).2 (has_yes c pp c.ps.length cp vl m (by omega) (by omega) (by omega) w))
      gi_wp2_with fail
      refine ⟨trivial, wide_deep, (HH _).out.mono ?_⟩
      rintro e w1 ⟨rfl, hB⟩
      have hO1 := HO.out.below hB
      have HO1 := Lib.hid hO1
      have e6 : w1.cell? ⟨bc, 6, none⟩ = some (.slice pp c.ps.length cp) := hO1.cell (i := 6) rfl
      have en : w1.cell? ⟨bn, 0, none⟩ = some (.int .i64 m) := hO1.swap.cell (i := 0) rfl
      obtain ⟨fn, tmps, assign, body, hy, hR⟩ := HY1.out w1 (hO1.under fun _ _ h => h).join
      have HR := Lib.hid hR
      have HD := Lib.hid (nodeAt_eq dn)
      clear d0 d1 d2 d3 d4 d5 d6 d7 dn HO HH HY1 hB hO1 hR
      gi_wp2_with fail
      refine ⟨wide_deep, HR.out.mono ?_⟩
      rintro e w2 (⟨rfl, hO2⟩ | ⟨rfl, hO2⟩)
      · have hO2 := hO2.part
        have f6 : w2.cell? ⟨bc, 6, none⟩ = some (.slice pp c.ps.length cp) := hO2.cell (i := 6) rfl
        have fn : w2.cell? ⟨bn, 0, none⟩ = some (.int .i64 m) := hO2.swap.cell (i := 0) rfl
        have ff : w2.frozen? ⟨bn, 0, none⟩ = false := hO2.swap.unfrozen
        obtain ⟨b, off, cap, he, hcell⟩ := (HP.out w2 hO2.drop.drop.drop).at (by omega)
        injection he with he1 he2 he3
        subst he1
        have fp := hcell m hm
        have HO3 := Lib.hid ((hO2.swap.set 0 (.int .i64 (c.ps.getD m 0))).swap)
        have HM := Lib.hid (show (((c.ps.getD m 0) + 1).toNat < ((m : Int) + 1).toNat) by omega)
        clear he2 he3 hcell hO2 HO1 e6 en hy HR
        generalize c.ps.getD m 0 = p at *
        gi_wp2_with fail
        go_roundw
        case rel => exact ⟨k + 1, p, by omega, HN, HO3.out⟩
        case measure => rw [HD.out, nodeAt_eq (HO3.out.swap.cell (i := 0) rfl)]; exact HM.out
      · gi_wp2_with fail
        go_end0
        exact ⟨⟨_, rfl⟩, .inr ⟨k, hlt, hO2.drop⟩⟩
    · have hout : ¬ (0 ≤ z ∧ z < c.ps.length) := by
        rw [Hz.out]; unfold nodeK
        split
        · intro h
          have := path_pos ht v h.1 h.2
          omega
        · rw [show (path c.ps v).getD k (-1) = -1 by simp [List.getD, List.getElem?_eq_none (show (path c.ps v).length ≤ k by omega)]]
          omega
      have HH := fun w => Lib.hid (callsIn_wide (n := n - 1).2 (has_no c pp c.ps.length cp vl z hout (by omega) w))
      have HK := Lib.hid (show k = (path c.ps v).length by omega)
      clear hout hlt
      gi_wp2_with fail
      refine ⟨trivial, wide_deep, (HH _).out.mono ?_⟩
      rintro e w1 ⟨rfl, hB⟩
      have HO1 := Lib.hid (HO.out.below hB)
      clear d0 d1 d2 d3 d4 d5 d6 d7 dn HO HH hB
      gi_wp2_with fail
      refine ⟨fun _ h => (by cases h), ?_⟩
      gi_wp2_with fail
      go_end0
      exact ⟨⟨_, rfl⟩, .inl (by rw [← HK.out]; exact HO1.out.drop.drop)⟩
end Go.Proofs.Ytnbifmkcdnfkhaa
