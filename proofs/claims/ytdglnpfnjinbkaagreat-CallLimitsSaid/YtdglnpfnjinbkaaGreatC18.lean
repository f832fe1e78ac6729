/- Texts of elder layers, one behind the other: TreeRef2, TreeRef3, RowMore, AddArg, AddBase, AskLaw, AskOf, PlanHead, ClaimLaw, AskWords, AskPk, AskFacts, ReleaseAny. -/
import Derived.Test.YtdglnpfnjinbkaaGreatC17
import Derived.Lib.QuietBelow
import Derived.BigQuiet
import Derived.Deep.QuietTactic
import Derived.Deep.RegionHeld3
import Derived.Deep.RegionLaw
namespace Go.Proofs.YtdglnpfnjinbkaaGreat
open Go.ChangeShapes Go.WideShapes Go.ChangeAt Go.RowKit Go.Shelf
open Lib (hid)
set_option linter.unusedVariables false
set_option linter.unusedSimpArgs false
set_option maxRecDepth 100000
set_option maxHeartbeats 4000000
section
variable {w0 w w' : World} {F0 : Nat -> Prop} {L : List Asn}
theorem upF_take {ps : List Int} {v : Int} {k : Nat} (h : k < (path ps v).length) : (path ps v).take (k + 1) = (path ps v).take k ++ [(path ps v).getD k (-1)] := zTm h
theorem rPath_any (c : Cf) (ht : Tr c.ps) {vp vl : Value} (hp : zZc w .i64 vp c.ps) (hl : zZc w .i64 vl c.ls) (v : Int) (h : Own w0 F0 L w) :
 Calls Tryz.prog 75 #[cfV c vp vl, .int .i64 v] w (zWe w0 F0 L 3 1 (path c.ps v).length (intC (path c.ps v))) := by
 refine Calls.mono (R := zWe w (fun _ => False) [] 3 1 (path c.ps v).length (intC (path c.ps v))) ?_ fun e w' ⟨u, he, hO⟩ => ⟨u, he, h.lift hO⟩
 obtain ⟨pp, cp, rfl⟩ := hp.slice
 obtain ⟨pl, cl, rfl⟩ := hl.slice
 have HP := hid hp
 have HO := hid ((Own.start w).new (cfO c (.slice pp c.ps.length cp) (.slice pl c.ls.length cl)))
 have hn1 := ht.n1
 have hn0 := ht.n0
 clear hp hl h
 by_cases hin : 0 <= v /\ v < c.ps.length
 ·obtain ⟨h0, h1⟩ := hin
  have HX := hid (zXu ht v (by omega) h1)
  have HZ := hid (path_zero ht v h0 h1)
  have HN := hid (zQf ht v h0 h1)
  have HT := hid ht
  have hl12 := zXv ht v
  have HTk := hid (fun k h => upF_take (ps := c.ps) (v := v) (k := k) h)
  have HEnd := hid (show (path c.ps v).getD (path c.ps v).length (-1) = -1 by simp [List.getD])
  obtain ⟨i0, hi0, hz0, hz1, hz2⟩ := info_parts Tryz.info_int
  have HO1 := hid (HO.out.rowNil (e := 3) (size := 1))
  obtain ⟨b, off, cap, he, hb⟩ := HP.out.at (by omega)
  injection he with he1 he2 he3
  subst he1
  have Hb := hid hb
  clear ht HO he2 he3 hb
  generalize path c.ps v = xs at *
  go_enter Tryz.func75, Tryz.ntmps75
  go_wp2
  go_loopw [5, 6] (fun r z wr => ∃ k : Nat, k <= xs.length /\ z = .int .i64 (xs.getD k (-1)) /\ Own w (fun _ => False) [row r 3 1 k (intC (xs.take k)), blk w.heap.size (cfO c (.slice (some ⟨b, off, none⟩) c.ps.length cp) (.slice pl c.ls.length cl))] wr) (fun _ z _ => (intOf z + 1).toNat)
  case atStart => exact ⟨0, by omega, by rw [HZ.out], HO1.out⟩
  case round =>
   obtain ⟨k, hk, rfl, hO⟩ := hrel
   by_cases hlt : k < xs.length
   ·have hx := HX.out k hlt
    have HTe := hid (HTk.out k hlt)
    obtain ⟨z, hz⟩ : ∃ z : Nat, xs.getD k (-1) = z := ⟨(xs.getD k (-1)).toNat, by omega⟩
    rw [hz] at hx HTe
    simp only [hz]
    have hzn : z < c.ps.length := by omega
    have hbw := Hb.out z hzn
    have hbz : wr.cell? ⟨b, off + z, none⟩ = some (.int .i64 (c.ps.getD z 0)) := by
     rw [hO.toBelow.cell (World.block_lt_of_cell? w _ hbw)]; exact hbw
    obtain ⟨p, cap', rfl⟩ := zZe hO
    have hfall := HT.out.fall z (by omega) (by omega)
    have hpar := hx.2.2
    rw [par, Int.toNat_natCast] at hpar hfall
    have HPR := hid hpar
    have HA := hid (hO.alloc (.cells #[.int .i64 z] 3))
    have HW := hid hbw
    have b1 : k + 1 <= maxLen := by unfold maxLen; omega
    have b2 : (k + 1) * 8 <= 140737488355328 := by omega
    clear hx hO hz hpar hbw hbz
    generalize c.ps.getD z 0 = q at *
    go_wp2_with (at_builtin; refine zZf rfl _ _ 22 rfl 3 i0 _ Tryz.underlying22 hi0 hz0 hz1 hz2 rfl (by decide) rfl HA.out ⟨wr.heap.size, 0, none⟩ 1 1 [.int .i64 z] rfl rfl (zYd wr [.int .i64 z] _ _ rfl) (by simp [Value.oneCell']) b1 b2 ?_; intro v' w1 hO hg hn; obtain ⟨p', cap', rfl⟩ := zZe hO; have d6 : w1.cell? ⟨w.heap.size, 6, none⟩ = some (.slice (some ⟨b, off, none⟩) c.ps.length cp) := hO.swap.cell (i := 6) rfl; have hbz1 : w1.cell? ⟨b, off + z, none⟩ = some (.int .i64 q) := (hO.toBelow.cell (World.block_lt_of_cell? w _ HW.out)).trans HW.out; have HO2 := hid hO; clear hO hg hn)
    go_roundw
    case rel => exact ⟨k + 1, by omega, by rw [HPR.out], by rw [HTe.out, zT3]; exact HO2.out⟩
    case measure => simp [intOf]; omega
   ·have hke : k = xs.length := by omega
    subst hke
    rw [HEnd.out]
    obtain ⟨p, cap', rfl⟩ := zZe hO
    have HO2 := hid (show Own w (fun _ => False) [row (.slice p xs.length cap') 3 1 xs.length (intC xs)] wr from by rw [List.take_length] at hO; exact hO.under fun _ _ h => h.drop)
    clear hO hlt
    go_wp2
    go_ret
    exact ⟨_, rfl, HO2.out⟩
 ·rw [zX6 v (by omega)]
  have HO1 := hid (HO.out.rowNil (e := 3) (size := 1))
  rcases (by omega : v < 0 ∨ (0 <= v /\ (c.ps.length : Int) <= v)) with h1 | ⟨h1, h2⟩
  ·clear hin
   go_enter Tryz.func75, Tryz.ntmps75
   go_wp2
   go_ret
   exact ⟨_, rfl, HO1.out.swap.drop⟩
  ·clear hin
   go_enter Tryz.func75, Tryz.ntmps75
   go_wp2
   go_ret
   exact ⟨_, rfl, HO1.out.swap.drop⟩
end
section
variable {w0 w w' : World} {F0 : Nat -> Prop} {L : List Asn}
theorem rUnder_any (c : Cf) (ht : Tr c.ps) {vp vl : Value} (hp : zZc w .i64 vp c.ps) (hl : zZc w .i64 vl c.ls) (v b : Int) :
 Calls Tryz.prog 60 #[cfV c vp vl, .int .i64 v, .int .i64 b] w fun e w' => e = .returned (.bool (onB c.ps v b)) /\ Below w.heap.size w w' := by
 obtain ⟨pp, cp, rfl⟩ := hp.slice
 obtain ⟨pl, cl, rfl⟩ := hl.slice
 have hO := (Own.start w).new (cfO c (.slice pp c.ps.length cp) (.slice pl c.ls.length cl))
 have HS := hid (rPath_any c ht (hp.below hO.toBelow) (hl.below hO.toBelow) v hO)
 have b2 := zXv ht v
 have HY := hid (show ∀ k, k < (path c.ps v).length /\ (path c.ps v).getD k (-1) = b -> onB c.ps v b = true from fun k hk => zUp.2 (on_get.2 ⟨k, hk.1, hk.2⟩))
 have HN := hid (show (∀ j, j < (path c.ps v).length -> (path c.ps v).getD j (-1) ≠ b) -> onB c.ps v b = false from fun h => by
  rw [Bool.eq_false_iff]; intro h'
  obtain ⟨k, hk, e⟩ := on_get.1 (zUp.1 h')
  exact h k hk e)
 clear hp hl hO
 go_enter Tryz.func60, Tryz.ntmps60
 go_wp2_with fail
 refine HS.out.mono ?_
 rintro e w1 ⟨u, rfl, hO⟩
 have hI := hO.intsAt
 obtain ⟨p, cap, rfl⟩ := zZe hO
 have HB := hid hO.toBelow
 clear hO HS
 generalize path c.ps v = xs at *
 by_cases h0 : 0 < xs.length
 ·obtain ⟨g, off, cap', he, hb⟩ := hI.at h0
  injection he with he1 he2 he3
  subst he1
  have Hb := hid hb
  clear hI he2 he3 hb
  go_wp2
  go_loop [8] (fun i => ∃ k : Nat, k <= xs.length /\ i = .int .i64 k /\ Hid (∀ j, j < k -> xs.getD j (-1) ≠ b)) (fun i => xs.length - (intOf i).toNat)
  case atStart => exact ⟨0, by omega, rfl, hid (fun j hj => by omega)⟩
  case round =>
   obtain ⟨k, hk, rfl, HK⟩ := hrel
   by_cases hlt : k < xs.length
   ·have hbk := Hb.out k hlt
    obtain ⟨z, hz⟩ : ∃ z, xs.getD k 0 = z := ⟨_, rfl⟩
    have hz2 : xs.getD k (-1) = z := by rw [<- hz]; simp [List.getD, hlt]
    rw [hz] at hbk
    by_cases hx : z = b
    ·have hF : (z == b) = true := by simp [hx]
     have HX := hid (HY.out k ⟨hlt, by rw [hz2, hx]⟩)
     clear hz hz2 hx
     go_wp2
     go_ret
     exact ⟨zYf HX.out.symm, HB.out⟩
    ·have hF : (z == b) = false := by simp [hx]
     have HK2 := hid (show ∀ j, j < k + 1 -> xs.getD j (-1) ≠ b from fun j hj => by
      rcases Nat.lt_or_eq_of_le (Nat.le_of_lt_succ hj) with h | rfl
      ·exact HK.out j h
      ·rw [hz2]; exact hx)
     clear hz hz2 hx
     go_wp2
     go_round
     case rel => exact ⟨k + 1, by omega, by go_num, HK2⟩
     case measure => simp [intOf]; omega
   ·have HX := hid (HN.out (fun j hj => HK.out j (by omega)))
    have hke : k = xs.length := by omega
    subst hke
    clear hlt
    go_wp2
    go_ret
    exact ⟨zYf HX.out.symm, HB.out⟩
 ·have h1 : xs.length = 0 := by omega
  have HX := hid (HN.out (fun j hj => by omega))
  rw [h1]
  clear h0 h1 hI
  go_wp2
  refine wp_loop_rounds 1 ?_
  rw [rounds_succ]
  go_wp2
  go_ret
  exact ⟨zYf HX.out.symm, HB.out⟩
theorem rLeaf_any (c : Cf) (h0 : 0 < c.ps.length) (hn : c.ps.length <= 140737488351232) {vp vl : Value} (hp : zZc w .i64 vp c.ps) (hl : zZc w .i64 vl c.ls) (v : Int) :
 Calls Tryz.prog 28 #[cfV c vp vl, .int .i64 v] w fun e w' => e = .returned (.bool (lfB c.ps v)) /\ Below w.heap.size w w' := by
 obtain ⟨pp, cp, rfl⟩ := hp.slice
 obtain ⟨pl, cl, rfl⟩ := hl.slice
 have HO := hid ((Own.start w).new (cfO c (.slice pp c.ps.length cp) (.slice pl c.ls.length cl)))
 have HY := hid (show ∀ k, k < c.ps.length -> c.ps.getD k 0 = v -> lfB c.ps v = false from fun k hk e => lfB_no (fun h => h.2 (List.mem_iff_getElem.2 ⟨k, hk, by simpa [List.getD, hk] using e⟩)))
 have HN := hid (show (∀ j, j < c.ps.length -> c.ps.getD j 0 ≠ v) -> v ∉ c.ps from fun h hm => by
  obtain ⟨k, hk, e⟩ := List.mem_iff_getElem.1 hm
  exact h k hk (by simpa [List.getD, hk] using e))
 have HF1 := hid (show ∀ _ : ¬ (0 <= v /\ v < c.ps.length), lfB c.ps v = false from fun h => lfB_no (fun h' => h h'.1))
 have HF2 := hid (show ∀ _ : 0 <= v /\ v < c.ps.length, v ∉ c.ps -> lfB c.ps v = true from fun h h' => zVp.2 ⟨h, h'⟩)
 obtain ⟨g, off, cap', he, hb⟩ := hp.at h0
 injection he with he1 he2 he3
 subst he1
 have Hb := hid hb
 clear hp hl he2 he3 hb
 have d6 := hid (HO.out.cell (i := 6) rfl)
 go_enter Tryz.func28, Tryz.ntmps28
 go_wp2
 go_loopw [5] (fun i wr => ∃ k : Nat, k <= c.ps.length /\ i = .int .i64 k /\ Hid (∀ j, j < k -> c.ps.getD j 0 ≠ v) /\ Own w (fun _ => False) [blk w.heap.size (cfO c (.slice (some ⟨g, off, none⟩) c.ps.length cp) (.slice pl c.ls.length cl))] wr) (fun i _ => c.ps.length - (intOf i).toNat)
 case atStart => exact ⟨0, by omega, rfl, hid (fun j hj => by omega), HO.out⟩
 case round =>
  obtain ⟨k, hk, rfl, HK, hO⟩ := hrel
  have d6 : wr.cell? ⟨w.heap.size, 6, none⟩ = some (.slice (some ⟨g, off, none⟩) c.ps.length cp) := hO.cell (i := 6) rfl
  have HO2 := hid hO
  by_cases hlt : k < c.ps.length
  ·have hbk : wr.cell? ⟨g, off + k, none⟩ = some (.int .i64 (c.ps.getD k 0)) := (hO.toBelow.cell (World.block_lt_of_cell? w _ (Hb.out k hlt))).trans (Hb.out k hlt)
   obtain ⟨z, hz⟩ : ∃ z, c.ps.getD k 0 = z := ⟨_, rfl⟩
   rw [hz] at hbk
   by_cases hx : z = v
   ·have hF : (z == v) = true := by simp [hx]
    have HX := hid (HY.out k hlt (by rw [hz, hx]))
    clear hz hx hO
    go_wp2
    go_ret
    exact ⟨zYf HX.out.symm, HO2.out.toBelow⟩
   ·have hF : (z == v) = false := by simp [hx]
    have HK2 := hid (show ∀ j, j < k + 1 -> c.ps.getD j 0 ≠ v from fun j hj => by
     rcases Nat.lt_or_eq_of_le (Nat.le_of_lt_succ hj) with h | rfl
     ·exact HK.out j h
     ·rw [hz]; exact hx)
    clear hz hx hO
    go_wp2
    go_roundw
    case rel => exact ⟨k + 1, by omega, by go_num, HK2, HO2.out⟩
    case measure => simp [intOf]; omega
  ·have HM := hid (HN.out (fun j hj => HK.out j (by omega)))
   have hke : k = c.ps.length := by omega
   subst hke
   clear hlt hO
   by_cases hin : 0 <= v /\ v < c.ps.length
   ·have HX := hid (HF2.out hin HM.out)
    obtain ⟨i1, i2⟩ := hin
    go_wp2
    go_ret
    exact ⟨zYf HX.out.symm, HO2.out.toBelow⟩
   ·have HX := hid (HF1.out hin)
    rcases (by omega : v < 0 ∨ (0 <= v /\ (c.ps.length : Int) <= v)) with i1 | ⟨i1, i2⟩
    ·clear hin
     go_wp2
     go_ret
     exact ⟨zYf HX.out.symm, HO2.out.toBelow⟩
    ·have hF : decide (v < (c.ps.length : Int)) = false := by simp; omega
     clear hin i2
     go_wp2
     go_ret
     exact ⟨zYf HX.out.symm, HO2.out.toBelow⟩
end
section
theorem size_setCell (w : World) (a : Addr) (v : Value) : (w.setCell a v).heap.size = w.heap.size := by simp [World.setCell]
theorem size_alloc (w : World) (o : Obj) : (w.alloc o).heap.size = w.heap.size + 1 := by simp
end
section
end
section
end
section
variable {w0 w w' W : World} {F0 : Nat -> Prop} {L : List Asn} {T : TypeId} {m : Nat} {ws : List Int} {lg : List Acc}
section
variable {x : Ak} {pp pl pb pa pk : Option Addr} {cp cl cb ca ck : Nat}
end
def lvK (ps : List Int) : Nat -> List Int
 | 0 => []
 | k + 1 => lvK ps k ++ if lfB ps k = true then [(k : Int)] else []
theorem lvK_leaf (ps : List Int) : ∀ k z, z ∈ lvK ps k -> lfB ps z = true /\ 0 <= z /\ z < (k : Int)
 | 0, z, h => by simp [lvK] at h
 | k + 1, z, h => by
   rw [lvK, List.mem_append] at h
   rcases h with h | h
   ·have := lvK_leaf ps k z h; exact ⟨this.1, this.2.1, by omega⟩
   ·split at h
    ·rename_i hb
     obtain rfl : z = (k : Int) := by simpa using h
     exact ⟨hb, by omega, by omega⟩
    ·simp at h
theorem lvK_mem (ps : List Int) (z : Nat) (hz : lfB ps z = true) : ∀ k, z < k -> (z : Int) ∈ lvK ps k
 | 0, h => by omega
 | k + 1, h => by
   rw [lvK, List.mem_append]
   by_cases e : z = k
   ·subst e; right; rw [if_pos hz]; simp
   ·left; exact lvK_mem ps z hz k (by omega)
def lfOf (c : Cf) (n : Nat) : Int := (lvK c.ps c.ps.length).getD (n % (lvK c.ps c.ps.length).length) 0
theorem lvK_pos {c : Cf} (hr : c.Rt) : 0 < (lvK c.ps c.ps.length).length := by
 have hl := last_leaf hr.tr
 have h0 := hr.n0
 have hb : lfB c.ps ((c.ps.length - 1 : Nat) : Int) = true := by
  rw [show ((c.ps.length - 1 : Nat) : Int) = (c.ps.length : Int) - 1 by omega]
  unfold lfB
  simp only [Bool.and_eq_true, decide_eq_true_eq, Bool.not_eq_true', decide_eq_false_iff_not]
  exact ⟨hl.1, hl.2⟩
 exact List.length_pos_of_mem (lvK_mem c.ps _ hb c.ps.length (by omega))
theorem lfOf_bd {c : Cf} (hr : c.Rt) (n : Nat) : lfB c.ps (lfOf c n) = true /\ 0 <= lfOf c n /\ lfOf c n < (c.ps.length : Int) := by
 have hp := lvK_pos hr
 have hm := Nat.mod_lt n hp
 refine lvK_leaf c.ps c.ps.length _ ?_
 unfold lfOf
 simp [List.getD, hm]
end
section
variable {w0 w w' W : World} {F0 : Nat -> Prop} {L : List Asn} {T : TypeId} {m : Nat} {ws : List Int} {lg : List Acc}
end
section
variable {w0 w w' W : World} {F0 : Nat -> Prop} {L : List Asn} {b : Nat} {c : Cf} {pp pl : Option Addr} {np nl cp cl : Nat} {vp vl : Value}
def baseW : List Int := [20, 20, 0, 0, 0, 0, 0, 1, 0, 0, 10, 10, 0, 0, 0, 0, 0, 1, 0, 0, 8, 8, 0, 0, 0, 0, 0, 1, 0, 0, 5, 5, 0, 0, 0, 0, 0, 1, 0, 0, 0, 0, 0, 0, 0, 0]
theorem zRm : zZu baseC 4 = baseW := by decide +kernel
end
section
variable {w0 w w' W : World} {F0 : Nat -> Prop} {L : List Asn} {ws : List Int} {lg : List Acc}
section
variable {pp pl pe pk : Option Addr} {cp cl ce ck : Nat}
end
def cpC (c : Cf) (st : Nat) : CP := ⟨limN c c.ps.length, c.ti.toNat, st⟩
theorem cpC_ok {c : Cf} (hr : c.Rt) (st : Nat) (h : st <= 1000) : (cpC c st).Ok := by
 have ht := hr.ti
 unfold Bd at ht
 exact ⟨by simp only [cpC]; omega, by simp only [cpC]; omega, h⟩
theorem tk_eq {c : Cf} (hr : c.Rt) : lim c c.ps.length = ((limN c c.ps.length : Nat) : Int) /\ sizeN c = limN c c.ps.length + 2 * c.ti.toNat /\ sizeN c <= 400 /\ c.ti = ((c.ti.toNat : Nat) : Int) /\ 1 <= c.ti.toNat /\ c.ti.toNat <= 16 := by
 have ht := hr.ti
 unfold Bd at ht
 obtain ⟨z1, z2⟩ := zR7 hr
 have hl := zZw hr.sm c.ps.length
 refine ⟨hl, rfl, by omega, by omega, by omega, by omega⟩
end
section
variable {w0 w w' W : World} {F0 : Nat -> Prop} {L : List Asn} {T : TypeId} {m : Nat} {ws : List Int} {lg : List Acc}
def akB (x : Ak) : Nat -> List Int
 | 0 => zZu x.c x.c.ps.length
 | k + 1 => if x.bs.getD k false = true then (akB x k).set (tkN x.c k) 4294967297 else akB x k
def akRB (x : Ak) : Nat := min x.bs.length x.c.ti.toNat
def akA (x : Ak) : Nat -> List Int
 | 0 => akB x (akRB x)
 | k + 1 => (akA x k).set (avN x.c k) (x.av.getD k 0)
def akRA (x : Ak) : Nat := min x.av.length x.c.ps.length
def akW (x : Ak) : List Int := akA x (akRA x)
theorem akB_len (x : Ak) : ∀ k, (akB x k).length = sizeN x.c
 | 0 => zYw x.c _
 | k + 1 => by rw [akB]; split <;> (try rw [List.length_set]) <;> exact akB_len x k
theorem akA_len (x : Ak) : ∀ k, (akA x k).length = sizeN x.c
 | 0 => akB_len x _
 | k + 1 => by rw [akA, List.length_set, akA_len x k]
end
section
end
section
theorem zQr (c : Cf) : ∀ k j, limN c k <= j -> (zZu c k).getD j 0 = 0
 | 0, j, _ => by
   rw [zZu]
   simp only [List.getD_eq_getElem?_getD, List.getElem?_replicate]
   split <;> rfl
 | k + 1, j, h => by
   have hs := zZd c k
   rw [zZu, layW, zZb, if_neg (by omega), zZb, if_neg (by omega), zZb, if_neg (by omega)]
   exact zQr c k j (by omega)
theorem fresh_at (c : Cf) : ∀ k, k <= c.ps.length -> ∀ u, u < k -> ∀ i, i < 6 + 2 * c.st.toNat -> (zZu c k).getD (limN c u + i) 0 = if i <= 1 then c.ls.getD u 0 else if i = 5 + c.st.toNat then 1 else 0
 | 0, _, u, hu, _, _ => by omega
 | k + 1, hk, u, hu, i, hi => by
   have hs := zZd c k
   have hl := zYw c k
   have hz := zZg c (show k < c.ps.length by omega)
   have hsz : limN c c.ps.length <= sizeN c := by unfold sizeN; omega
   rw [zZu, layW, zZb, zZb, zZb]
   simp only [List.length_set]
   by_cases e : u = k
   ·subst e
    by_cases h5 : i = 5 + c.st.toNat
    ·rw [if_pos ⟨by omega, by omega⟩, if_neg (by omega), if_pos h5]
    ·rw [if_neg (by omega)]
     by_cases h1 : i = 1
     ·rw [if_pos ⟨by omega, by omega⟩, if_pos (by omega)]
     ·rw [if_neg (by omega)]
      by_cases h0 : i = 0
      ·rw [if_pos ⟨by omega, by omega⟩, if_pos (by omega)]
      ·rw [if_neg (by omega), if_neg (by omega), if_neg h5]
       exact zQr c u _ (by omega)
   ·have hlt := zZg c (show u < k by omega)
    rw [if_neg (by omega), if_neg (by omega), if_neg (by omega)]
    exact fresh_at c k (by omega) u (by omega) i hi
variable {x : Ak}
theorem akB_at (x : Ak) : ∀ k, k <= x.c.ti.toNat -> ∀ j, (akB x k).getD j 0 = if (∃ t, t < k /\ j = tkN x.c t /\ x.bs.getD t false = true) then 4294967297 else (zZu x.c x.c.ps.length).getD j 0
 | 0, _, j => by rw [akB, if_neg (by rintro ⟨t, h, _⟩; omega)]
 | k + 1, hk, j => by
   have ih := akB_at x k (by omega) j
   have hin : tkN x.c k < sizeN x.c := by unfold tkN sizeN; omega
   rw [akB]
   by_cases hb : x.bs.getD k false = true
   ·rw [if_pos hb, zZb]
    by_cases e : tkN x.c k = j
    ·rw [if_pos ⟨e, by rw [akB_len]; omega⟩, if_pos ⟨k, by omega, e.symm, hb⟩]
    ·rw [if_neg (fun h => e h.1), ih]
     by_cases hx : ∃ t, t < k /\ j = tkN x.c t /\ x.bs.getD t false = true
     ·obtain ⟨t, h1, h2, h3⟩ := hx
      rw [if_pos ⟨t, h1, h2, h3⟩, if_pos ⟨t, by omega, h2, h3⟩]
     ·rw [if_neg hx, if_neg]
      rintro ⟨t, h1, h2, h3⟩
      by_cases et : t = k
      ·subst et; exact e h2.symm
      ·exact hx ⟨t, by omega, h2, h3⟩
   ·rw [if_neg hb, ih]
    by_cases hx : ∃ t, t < k /\ j = tkN x.c t /\ x.bs.getD t false = true
    ·obtain ⟨t, h1, h2, h3⟩ := hx
     rw [if_pos ⟨t, h1, h2, h3⟩, if_pos ⟨t, by omega, h2, h3⟩]
    ·rw [if_neg hx, if_neg]
     rintro ⟨t, h1, h2, h3⟩
     by_cases et : t = k
     ·subst et; exact hb h3
     ·exact hx ⟨t, by omega, h2, h3⟩
theorem akA_at (x : Ak) : ∀ k, k <= x.c.ps.length -> ∀ j, (akA x k).getD j 0 = if (∃ u, u < k /\ j = avN x.c u) then x.av.getD ((j - 1) / (6 + 2 * x.c.st.toNat)) 0 else (akB x (akRB x)).getD j 0
 | 0, _, j => by rw [akA, if_neg (by rintro ⟨t, h, _⟩; omega)]
 | k + 1, hk, j => by
   have ih := akA_at x k (by omega) j
   have hin : avN x.c k < sizeN x.c := by have := zZg x.c (show k < x.c.ps.length by omega); unfold avN sizeN; omega
   have hdiv : ∀ u, (avN x.c u - 1) / (6 + 2 * x.c.st.toNat) = u := fun u => by
    unfold avN limN
    rw [Nat.add_sub_cancel]
    exact Nat.mul_div_cancel _ (by omega)
   rw [akA, zZb]
   by_cases e : avN x.c k = j
   ·rw [if_pos ⟨e, by rw [akA_len]; omega⟩, if_pos ⟨k, by omega, e.symm⟩, <- e, hdiv]
   ·rw [if_neg (fun h => e h.1), ih]
    by_cases hx : ∃ u, u < k /\ j = avN x.c u
    ·obtain ⟨t, h1, h2⟩ := hx
     rw [if_pos ⟨t, h1, h2⟩, if_pos ⟨t, by omega, h2⟩]
    ·rw [if_neg hx, if_neg]
     rintro ⟨t, h1, h2⟩
     by_cases et : t = k
     ·subst et; exact e h2.symm
     ·exact hx ⟨t, by omega, h2⟩
def akAv (x : Ak) (u : Nat) : Int := if u < x.av.length then x.av.getD u 0 else x.c.ls.getD u 0
theorem zYk (x : Ak) (u : Nat) (hu : u < x.c.ps.length) (i : Nat) (hi : i < 6 + 2 * x.c.st.toNat) : (akW x).getD (limN x.c u + i) 0 = if i = 0 then x.c.ls.getD u 0 else if i = 1 then akAv x u else if i = 5 + x.c.st.toNat then 1 else 0 := by
 have hlt := zZg x.c hu
 have hRA : akRA x <= x.c.ps.length /\ akRA x <= x.av.length /\ (akRA x = x.c.ps.length ∨ akRA x = x.av.length) := by unfold akRA; omega
 have hRB : akRB x <= x.c.ti.toNat := by unfold akRB; omega
 have hf := fresh_at x.c x.c.ps.length (Nat.le_refl _) u hu i hi
 have hB : (akB x (akRB x)).getD (limN x.c u + i) 0 = (zZu x.c x.c.ps.length).getD (limN x.c u + i) 0 := by
  rw [akB_at x _ hRB, if_neg]
  rintro ⟨t, _, h, _⟩
  unfold tkN at h; omega
 unfold akW
 rw [akA_at x _ hRA.1, hB, hf]
 have hdiv : ∀ u, (avN x.c u - 1) / (6 + 2 * x.c.st.toNat) = u := fun u => by
  unfold avN limN
  rw [Nat.add_sub_cancel]
  exact Nat.mul_div_cancel _ (by omega)
 by_cases h1 : i = 1
 ·subst h1
  have e : limN x.c u + 1 = avN x.c u := rfl
  rw [e]
  have hex : (∃ u', u' < akRA x /\ avN x.c u = avN x.c u') ↔ u < x.av.length := by
   constructor
   ·rintro ⟨t, h2, h3⟩
    have h4 := congrArg (fun q => (q - 1) / (6 + 2 * x.c.st.toNat)) h3
    simp only [hdiv] at h4
    omega
   ·intro hl; exact ⟨u, by omega, rfl⟩
  by_cases hl : u < x.av.length
  ·rw [if_pos (hex.2 hl), hdiv]; simp [akAv, hl]
  ·rw [if_neg (fun h => hl (hex.1 h))]; simp [akAv, hl]
 ·rw [if_neg]
  ·by_cases h0 : i = 0
   ·rw [if_pos (by omega), if_pos h0]
   ·rw [if_neg (by omega), if_neg h0, if_neg h1]
  ·rintro ⟨t, h2, h3⟩
   by_cases e : u = t
   ·subst e; unfold avN at h3; omega
   ·have hst := zZd x.c t
    have hsu := zZd x.c u
    rcases Nat.lt_or_gt_of_ne e with h | h
    ·have := zZs (c := x.c) (show u + 1 <= t by omega); unfold avN at h3; omega
    ·have := zZs (c := x.c) (show t + 1 <= u by omega); unfold avN at h3; omega
theorem akW_hi (x : Ak) (j : Nat) (hj : limN x.c x.c.ps.length <= j) : (akW x).getD j 0 = if (∃ t, t < x.c.ti.toNat /\ j = tkN x.c t /\ x.bs.getD t false = true) then 4294967297 else 0 := by
 have hRA : akRA x <= x.c.ps.length := by unfold akRA; omega
 have hRB : akRB x <= x.c.ti.toNat := by unfold akRB; omega
 unfold akW
 rw [akA_at x _ hRA, if_neg, akB_at x _ hRB, zQr _ _ _ hj]
 ·by_cases hx : ∃ t, t < akRB x /\ j = tkN x.c t /\ x.bs.getD t false = true
  ·obtain ⟨t, h1, h2, h3⟩ := hx
   rw [if_pos ⟨t, h1, h2, h3⟩, if_pos ⟨t, by omega, h2, h3⟩]
  ·rw [if_neg hx, if_neg]
   rintro ⟨t, h1, h2, h3⟩
   refine hx ⟨t, ?_, h2, h3⟩
   have : t < x.bs.length := by
    apply Nat.lt_of_not_le
    intro hle
    rw [show x.bs.getD t false = false from by simp [List.getD, List.getElem?_eq_none hle]] at h3
    exact absurd h3 (by decide)
   unfold akRB; omega
 ·rintro ⟨t, h2, h3⟩
  have := zZg x.c (show t < x.c.ps.length by omega)
  unfold avN at h3; omega
theorem akW_tk (x : Ak) (t : Nat) (ht : t < x.c.ti.toNat) : (akW x).getD (tkN x.c t) 0 = if x.bs.getD t false = true then 4294967297 else 0 := by
 rw [akW_hi x _ (by unfold tkN; omega)]
 by_cases hb : x.bs.getD t false = true
 ·rw [if_pos ⟨t, ht, rfl, hb⟩, if_pos hb]
 ·rw [if_neg, if_neg hb]
  rintro ⟨t', _, h2, h3⟩
  have : t' = t := by unfold tkN at h2; omega
  subst this; exact hb h3
theorem akW_wf (x : Ak) (hr : x.c.Rt) (hw : x.Wf) (k : Nat) : I64 ((akW x).getD k 0) := by
 by_cases hk : limN x.c x.c.ps.length <= k
 ·rw [akW_hi x k hk]; split <;> (unfold I64; omega)
 ·have hs : 0 < 6 + 2 * x.c.st.toNat := by omega
  have hd := Nat.div_add_mod k (6 + 2 * x.c.st.toNat)
  have hm := Nat.mod_lt k hs
  have hu : k / (6 + 2 * x.c.st.toNat) < x.c.ps.length := by
   rw [Nat.div_lt_iff_lt_mul hs]
   unfold limN at hk; omega
  have e : k = limN x.c (k / (6 + 2 * x.c.st.toNat)) + k % (6 + 2 * x.c.st.toNat) := by
   unfold limN; rw [Nat.mul_comm]; exact hd.symm
  have h := zYk x _ hu _ hm
  rw [<- e] at h
  rw [h]
  have hlm := hr.lm _ (by rw [hr.ll]; exact hu)
  unfold Bd at hlm
  split
  ·unfold I64; omega
  ·split
   ·unfold akAv
    split
    ·rename_i h1; have := hw.av _ h1; unfold I64; omega
    ·unfold I64; omega
   ·split <;> (unfold I64; omega)
theorem akW_dw (x : Ak) (hr : x.c.Rt) (hw : x.Wf) : DW x.c 1099511627776 (akW x) := by
 have hst := zZy hr
 have hga := hr.ga
 have hle := hr.le
 unfold Bd at hga hle
 refine ⟨akA_len x _, akW_wf x hr hw, fun u hu => ⟨?_, fun i hi => ?_, ?_, fun k hk => ?_⟩⟩
 ·have h := zYk x u hu 1 (by omega)
  rw [if_neg (by decide), if_pos rfl] at h
  have hlm := hr.lm u (by rw [hr.ll]; exact hu)
  unfold Bd at hlm
  show 0 <= (akW x).getD (limN x.c u + 1) 0 /\ (akW x).getD (limN x.c u + 1) 0 <= 1099511627776
  rw [h]
  unfold akAv
  split
  ·rename_i h1; have := hw.av _ h1; omega
  ·exact hlm
 ·have h := zYk x u hu (2 + i) (by omega)
  rw [if_neg (by omega), if_neg (by omega), if_neg (by omega)] at h
  unfold leN
  rw [Nat.add_assoc, h]; omega
 ·have h := zYk x u hu (2 + x.c.st.toNat + 3) (by omega)
  rw [if_neg (by omega), if_neg (by omega), if_pos (by omega)] at h
  unfold ctN
  rw [show limN x.c u + 2 + x.c.st.toNat + 3 = limN x.c u + (2 + x.c.st.toNat + 3) by omega, h]
  unfold Pow8; omega
 ·have h := zYk x u hu (2 + x.c.st.toNat + 4 + k) (by omega)
  rw [if_neg (by omega), if_neg (by omega), if_neg (by omega)] at h
  unfold ctN
  rw [show limN x.c u + 2 + x.c.st.toNat + 4 + k = limN x.c u + (2 + x.c.st.toNat + 4 + k) by omega, h]
  have : pval 0 = 0 := by unfold pval wrap32; omega
  omega
theorem zTy (x : Ak) (hr : x.c.Rt) (u : Nat) (hu : u < x.c.ps.length) : sumZ (ctP x.c u 0) (akW x) = 0 := by
 have hst := zZy hr
 have hz : ∀ i, 2 + x.c.st.toNat <= i -> i < 6 + 2 * x.c.st.toNat -> i ≠ 5 + x.c.st.toNat -> (akW x).getD (limN x.c u + i) 0 = 0 := fun i h1 h2 h3 => by
  have h := zYk x u hu i h2
  rw [if_neg (by omega), if_neg (by omega), if_neg h3] at h; exact h
 have hstr : ∀ n, n <= x.c.st.toNat -> strN (ctN x.c u) (akW x) n = 0 := fun n => by
  induction n with
  | zero => intro _; rfl
  | succ n ih =>
    intro hn
    rw [strN, ih (by omega)]
    have := hz (2 + x.c.st.toNat + 4 + n) (by omega) (by omega) (by omega)
    unfold ctN
    rw [show limN x.c u + 2 + x.c.st.toNat + 4 + n = limN x.c u + (2 + x.c.st.toNat + 4 + n) by omega, this]
    unfold pval wrap32; omega
 have h0 := hz (2 + x.c.st.toNat) (by omega) (by omega) (by omega)
 have h1 := hstr x.c.st.toNat (Nat.le_refl _)
 show (akW x).getD (ctN x.c u) 0 + strN (ctN x.c u) (akW x) x.c.st.toNat = 0
 rw [h1]
 unfold ctN
 rw [show limN x.c u + 2 + x.c.st.toNat = limN x.c u + (2 + x.c.st.toNat) by omega, h0]; rfl
end
section
variable {p : RP} {s : RS} {ws ws0 : List Int} {lg : List Acc} {B0 : Int} {M0 t : Nat} {l : List Pk}
end
end Go.Proofs.YtdglnpfnjinbkaaGreat
