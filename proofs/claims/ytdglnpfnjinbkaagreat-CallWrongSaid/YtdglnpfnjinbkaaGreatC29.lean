/- Texts of elder layers, one behind the other: ClaimMach. -/
import Derived.Test.YtdglnpfnjinbkaaGreatC27
import Derived.Test.YtdglnpfnjinbkaaGreatC28
import Derived.Stop.RegionWithIn
import Derived.Deep.RegionHeld3
import Derived.Deep.QuietTactic
import Derived.BigQuiet
namespace Go.Proofs.YtdglnpfnjinbkaaGreat
open Go.ChangeShapes Go.WideShapes Go.ChangeAt Go.RowKit Go.Shelf
open Lib (hid)
set_option linter.unusedVariables false
set_option linter.unusedSimpArgs false
set_option maxRecDepth 100000
set_option maxHeartbeats 4000000
section
variable {w0 w w' : World} {F0 : Nat -> Prop} {L : List Asn} {T : TypeId} {m : Nat} {ws : List Int} {lg : List Acc}
def clO (vl : Value) (was : Int) (fr : Bool) (wd er n : Int) : Obj := .cells #[vl, .int .i64 was, .bool fr, .int .i64 wd, .int .i64 er, .int .i64 n, .bool false, .int .i64 0] 184 (0, 0)
theorem zZv {g : Nat} {vl : Value} {was wd er n : Int} {fr : Bool} (h : Own w0 F0 (blk g (clO vl was fr wd er n) :: L) w) :
 w.cell? ⟨g, 0, none⟩ = some vl /\ w.cell? ⟨g, 1, none⟩ = some (.int .i64 was) /\ w.cell? ⟨g, 2, none⟩ = some (.bool fr) /\ w.cell? ⟨g, 3, none⟩ = some (.int .i64 wd) /\ w.cell? ⟨g, 4, none⟩ = some (.int .i64 er) /\ w.cell? ⟨g, 5, none⟩ = some (.int .i64 n) /\ w.cell? ⟨g, 6, none⟩ = some (.bool false) /\ w.cell? ⟨g, 7, none⟩ = some (.int .i64 0) /\ ∀ j, w.frozen? ⟨g, j, none⟩ = false :=
 ⟨h.cell (i := 0) rfl, h.cell (i := 1) rfl, h.cell (i := 2) rfl, h.cell (i := 3) rfl, h.cell (i := 4) rfl, h.cell (i := 5) rfl, h.cell (i := 6) rfl, h.cell (i := 7) rfl, fun j => h.unfrozen⟩
def tixC (p : CP) (n : Nat) : List Value := (List.range n).flatMap fun j => [.int .i64 (p.tic j), .int .i64 (p.wd j)]
theorem zWg (p : CP) (n : Nat) : tixC p (n + 1) = tixC p n ++ [.int .i64 (p.tic n), .int .i64 (p.wd n)] := by
 unfold tixC; rw [List.range_succ, List.flatMap_append]; simp
theorem zVx (p : CP) (n : Nat) : (tixC p n).length = n * 2 := by
 induction n with
 | zero => rfl
 | succ n ih => rw [zWg, List.length_append, ih]; simp; omega
theorem tixC_get (p : CP) (n j : Nat) (hj : j < n) : (tixC p n)[j * 2 + 0]? = some (.int .i64 (p.tic j)) /\ (tixC p n)[j * 2 + 1]? = some (.int .i64 (p.wd j)) := by
 induction n with
 | zero => omega
 | succ n ih =>
   rw [zWg]
   by_cases h : j < n
   ·have := ih h
    rw [List.getElem?_append_left (by rw [zVx]; omega), List.getElem?_append_left (by rw [zVx]; omega)]
    exact this
   ·obtain rfl : j = n := by omega
    rw [List.getElem?_append_right (by rw [zVx]; omega), List.getElem?_append_right (by rw [zVx]; omega), zVx]
    simp
def tkR (b c : Nat) (p : CP) : Asn := row (.slice (some ⟨b, 0, none⟩) p.ti c) 187 2 p.ti (tixC p p.ti)
theorem tkR_cap {b c : Nat} {p : CP} (h1 : 1 <= p.ti) (h : Own w0 F0 (tkR b c p :: L) w) : p.ti <= c /\ c <= maxLen := by
 obtain ⟨g, cap, cur, he, h1, h2, _⟩ := h.rowBlk (by omega)
 injection he with _ _ he
 subst he
 exact ⟨h1, h2⟩
theorem zS4 {b c : Nat} {p : CP} (h : Own w0 F0 (tkR b c p :: L) w) (j : Nat) (hj : j < p.ti) : w.cell? ⟨b, j * 2, none⟩ = some (.int .i64 (p.tic j)) /\ w.cell? ⟨b, j * 2 + 1, none⟩ = some (.int .i64 (p.wd j)) := by
 have hr := h.isRow
 obtain ⟨e0, e1⟩ := tixC_get p p.ti j hj
 have a0 := hr.cells (g := b) rfl (j * 2 + 0) _ e0
 have a1 := hr.cells (g := b) rfl (j * 2 + 1) _ e1
 rw [add0] at a0 a1
 exact ⟨a0, a1⟩
section
variable {g : Nat} {was wd er n : Int} {fr : Bool}
theorem zWb {q : Option Addr} {c : Nat} (h : Own w0 F0 (blk g (clO (.slice q 0 c) was fr wd er n) :: L) w) :
 Calls Tryz.prog 312 #[.pointer (some ⟨g, 0, none⟩)] w fun en w' => en = .returned (.bool true) /\ w = w' := by
 obtain ⟨c0, c1, c2, c3, c4, c5, c6, c7, cf⟩ := zZv h
 clear h
 go_enter Tryz.func312, Tryz.ntmps312
 go_wp2_with fail
 go_ret
 exact ⟨rfl, rfl⟩
theorem zXx {q : Option Addr} {k c : Nat} (hk : 1 <= k) (h : Own w0 F0 (blk g (clO (.slice q k c) was fr wd er n) :: L) w) :
 Calls Tryz.prog 312 #[.pointer (some ⟨g, 0, none⟩)] w fun en w' => en = .returned (.bool false) /\ w = w' := by
 obtain ⟨c0, c1, c2, c3, c4, c5, c6, c7, cf⟩ := zZv h
 have hd : ((k : Int) == 0) = false := by simp; omega
 have hd2 : ¬ (k : Int) = 0 := by omega
 clear h
 go_enter Tryz.func312, Tryz.ntmps312
 go_wp2_with fail
 go_ret
 exact ⟨rfl, rfl⟩
theorem clNext_more {b o k c : Nat} (hk : 2 <= k) (hc : k <= c) (hm : c <= maxLen) (h : Own w0 F0 (blk g (clO (.slice (some ⟨b, o, none⟩) k c) was fr wd er n) :: L) w) :
 Calls Tryz.prog 311 #[.pointer (some ⟨g, 0, none⟩)] w fun en w' => en = .returned (.tuple #[]) /\ Own w0 F0 (blk g (clO (.slice (some ⟨b, o + 2, none⟩) (k - 1) (c - 1)) was fr wd er n) :: L) w' := by
 obtain ⟨c0, c1, c2, c3, c4, c5, c6, c7, cf⟩ := zZv h
 have H2 := hid (h.set 0 (.slice (some ⟨b, o + 2, none⟩) (k - 1) (c - 1)))
 have h1 : 1 < c := by omega
 have h2 : (1 : Int) <= k := by omega
 have h3 : k <= 9223372036854775807 := by unfold maxLen at hm; omega
 have HE := fun w h => hid (zXx (w0 := w0) (F0 := F0) (L := L) (w := w) (g := g) (was := was) (wd := wd) (er := er) (n := n) (fr := fr) (q := some ⟨b, o + 2, none⟩) (k := k - 1) (c := c - 1) (by omega) h)
 clear h hm
 go_enter Tryz.func311, Tryz.ntmps311
 go_wp2_with fail
 have h4 : Own w0 F0 (blk g (clO (.slice (some ⟨b, o + 2, none⟩) (k - 1) (c - 1)) was fr wd er n) :: L) _ := H2.out
 generalize World.setCell _ _ _ = w2 at h4 ⊢
 refine (HE _ h4).out.mono ?_
 rintro e1 w3 ⟨rfl, rfl⟩
 clear c0 c1 c2 c3 c4 c5 c6 c7 cf
 have H4 := hid h4
 clear h4
 go_wp2_with fail
 go_end0
 exact ⟨rfl, H4.out⟩
theorem clNext_end {b o c : Nat} (hc : 1 <= c) (hm : c <= maxLen) (h : Own w0 F0 (blk g (clO (.slice (some ⟨b, o, none⟩) 1 c) was fr wd er n) :: L) w) :
 Calls Tryz.prog 311 #[.pointer (some ⟨g, 0, none⟩)] w fun en w' => en = .returned (.tuple #[]) /\ ∃ q c', Own w0 F0 (blk g (clO (.slice q 0 c') was fr wd 3 0) :: L) w' := by
 obtain ⟨c0, c1, c2, c3, c4, c5, c6, c7, cf⟩ := zZv h
 have HE := fun q c w h => hid (zWb (w0 := w0) (F0 := F0) (L := L) (w := w) (g := g) (was := was) (wd := wd) (er := er) (n := n) (fr := fr) (q := q) (c := c) h)
 by_cases h1 : 1 < c
 ·have H2 := hid (h.set 0 (.slice (some ⟨b, o + 2, none⟩) 0 (c - 1)))
  clear h hm
  go_enter Tryz.func311, Tryz.ntmps311
  go_wp2_with fail
  have h4 : Own w0 F0 (blk g (clO (.slice (some ⟨b, o + 2, none⟩) 0 (c - 1)) was fr wd er n) :: L) _ := H2.out
  generalize World.setCell _ _ _ = w2 at h4 ⊢
  refine (HE _ _ _ h4).out.mono ?_
  rintro e1 w3 ⟨rfl, rfl⟩
  clear c0 c1 c2 c3 c4 c5 c6 c7 cf
  obtain ⟨c0, c1, c2, c3, c4, c5, c6, c7, cf⟩ := zZv h4
  have H4 := hid ((((h4.set 4 (.int .i64 3)).set 5 (.int .i64 0)).set 6 (.bool false)).set 7 (.int .i64 0))
  clear h4
  go_wp2_with fail
  go_end0
  exact ⟨rfl, _, _, H4.out⟩
 ·obtain rfl : c = 1 := by omega
  have H2 := hid (h.set 0 (.slice (some ⟨b, o, none⟩) 0 0))
  clear h hm
  go_enter Tryz.func311, Tryz.ntmps311
  go_wp2_with fail
  have h4 : Own w0 F0 (blk g (clO (.slice (some ⟨b, o, none⟩) 0 0) was fr wd er n) :: L) _ := H2.out
  generalize World.setCell _ _ _ = w2 at h4 ⊢
  refine (HE _ _ _ h4).out.mono ?_
  rintro e1 w3 ⟨rfl, rfl⟩
  clear c0 c1 c2 c3 c4 c5 c6 c7 cf
  obtain ⟨c0, c1, c2, c3, c4, c5, c6, c7, cf⟩ := zZv h4
  have H4 := hid ((((h4.set 4 (.int .i64 3)).set 5 (.int .i64 0)).set 6 (.bool false)).set 7 (.int .i64 0))
  clear h4
  go_wp2_with fail
  go_end0
  exact ⟨rfl, _, _, H4.out⟩
end
section
theorem tnV_one (a : Int) : tnV a 1 = tnW a 1 := by unfold tnV; rw [if_pos (by decide)]
theorem clLoad_z (i : Nat) (y : Int) (hy : ws.getD i 0 = y) (hi : i < ws.length) (hl : lg.length < 1000000) (h : Own w0 F0 (memA T m ws lg :: L) w) :
 Calls Tryz.prog 167 #[.pointer (some ⟨m, 0, none⟩), .int .i64 i] w fun en w' =>
  en = .returned (.int .i64 y) /\ Own w0 F0 (memA T m ws (lg ++ [⟨1, i, y, 0, false⟩]) :: L) w' := by
 subst hy; exact zY9 i hi hl h
variable {g b j c : Nat} {was wd er n : Int} {fr : Bool} {p : CP}
def clB (g b c : Nat) (p : CP) (j : Nat) (was : Int) (fr : Bool) : Asn := blk g (clO (.slice (some ⟨b, j * 2, none⟩) (p.ti - j) (c - j)) was fr 0 0 0)
theorem clFind_yes (hp : p.Ok) (hj : j < p.ti) (hl : lg.length < 1000000) (hi : p.wd j < ws.length) (y : Int) (hy : ws.getD (p.wd j) 0 = y) (hI : I64 y) (hc : stS y = 0)
 (E : Ending -> World -> Prop)
 (hK : ∀ w2, Own w0 F0 (clB g b c p j y true :: tkR b c p :: memA T m ws (lg ++ [⟨1, (p.wd j : Nat), y, 0, false⟩]) :: L) w2 -> E (.returned (.tuple #[])) w2)
 (h : Own w0 F0 (clB g b c p j was fr :: tkR b c p :: memA T m ws lg :: L) w) :
 Calls Tryz.prog 314 #[.pointer (some ⟨g, 0, none⟩), .pointer (some ⟨m, 0, none⟩)] w E := by
 obtain ⟨c0, c1, c2, c3, c4, c5, c6, c7, cf⟩ := zZv h
 obtain ⟨t0, t1⟩ := zS4 h.swap j hj
 have hpos : 0 < p.ti - j := by omega
 have h16 := hp.t16
 have hm1 : p.ti - j <= 9223372036854775807 := by omega
 have HL := fun L w h => hid (clLoad_z (w0 := w0) (F0 := F0) (L := L) (T := T) (m := m) (ws := ws) (lg := lg) (w := w) (p.wd j) y hy hi hl h)
 have HS := fun w => hid (zXr y hI w)
 have hd : (stS y == 0) = true := by simpa using hc
 have HK := hid hK
 have H1 := hid h.p2
 generalize stS y = Y at HS hd
 clear h hK hc hI hy hl hi
 go_enter Tryz.func314, Tryz.ntmps314
 go_wp2_with fail
 refine (HL _ _ H1.out).out.mono ?_
 rintro e1 w2 ⟨rfl, hM⟩
 have h2 := hM.swap
 clear c0 c1 c2 c3 c4 c5 c6 c7 cf t0 t1 H1 hM HL
 obtain ⟨c0, c1, c2, c3, c4, c5, c6, c7, cf⟩ := zZv h2
 have H2 := hid (h2.set 1 (.int .i64 y))
 clear h2
 go_wp2_with fail
 have h3 : Own w0 F0 (clB g b c p j y fr :: memA T m ws (lg ++ [⟨1, (p.wd j : Nat), y, 0, false⟩]) :: tkR b c p :: L) _ := H2.out
 generalize World.setCell _ _ _ = w3 at h3 ⊢
 refine (HS _).out.mono ?_
 rintro e1 w4 ⟨rfl, hB⟩
 have h4 := h3.below hB
 clear c0 c1 c2 c3 c4 c5 c6 c7 cf H2 hB h3 HS
 obtain ⟨c0, c1, c2, c3, c4, c5, c6, c7, cf⟩ := zZv h4
 have H4 := hid (h4.set 2 (.bool true))
 clear h4
 go_wp2_with fail
 have h5 : Own w0 F0 (clB g b c p j y true :: memA T m ws (lg ++ [⟨1, (p.wd j : Nat), y, 0, false⟩]) :: tkR b c p :: L) _ := H4.out
 generalize World.setCell _ _ _ = w5 at h5 ⊢
 clear c0 c1 c2 c3 c4 c5 c6 c7 cf H4
 obtain ⟨c0, c1, c2, c3, c4, c5, c6, c7, cf⟩ := zZv h5
 have hk := HK.out w5 (h5.under fun _ _ h => h.swap)
 clear h5 HK
 have HK := hid hk
 clear hk
 go_wp2_with fail
 go_end0
 exact HK.out
theorem clFind_no (hp : p.Ok) (hj : j < p.ti) (hl : lg.length < 1000000) (hi : p.wd j < ws.length) (y : Int) (hy : ws.getD (p.wd j) 0 = y) (hI : I64 y) (hc : stS y ≠ 0)
 (E : Ending -> World -> Prop)
 (hK : ∀ w2, Own w0 F0 (clB g b c p j y false :: tkR b c p :: memA T m ws (lg ++ [⟨1, (p.wd j : Nat), y, 0, false⟩]) :: L) w2 -> Calls Tryz.prog 311 #[.pointer (some ⟨g, 0, none⟩)] w2 fun en w' => en = .returned (.tuple #[]) /\ E en w')
 (h : Own w0 F0 (clB g b c p j was fr :: tkR b c p :: memA T m ws lg :: L) w) :
 Calls Tryz.prog 314 #[.pointer (some ⟨g, 0, none⟩), .pointer (some ⟨m, 0, none⟩)] w E := by
 obtain ⟨c0, c1, c2, c3, c4, c5, c6, c7, cf⟩ := zZv h
 obtain ⟨t0, t1⟩ := zS4 h.swap j hj
 have hpos : 0 < p.ti - j := by omega
 have h16 := hp.t16
 have hm1 : p.ti - j <= 9223372036854775807 := by omega
 have HL := fun L w h => hid (clLoad_z (w0 := w0) (F0 := F0) (L := L) (T := T) (m := m) (ws := ws) (lg := lg) (w := w) (p.wd j) y hy hi hl h)
 have HS := fun w => hid (zXr y hI w)
 have hd : (stS y == 0) = false := by simpa using hc
 have HK := hid hK
 have H1 := hid h.p2
 generalize stS y = Y at HS hd
 clear h hK hc hI hy hl hi
 go_enter Tryz.func314, Tryz.ntmps314
 go_wp2_with fail
 refine (HL _ _ H1.out).out.mono ?_
 rintro e1 w2 ⟨rfl, hM⟩
 have h2 := hM.swap
 clear c0 c1 c2 c3 c4 c5 c6 c7 cf t0 t1 H1 hM HL
 obtain ⟨c0, c1, c2, c3, c4, c5, c6, c7, cf⟩ := zZv h2
 have H2 := hid (h2.set 1 (.int .i64 y))
 clear h2
 go_wp2_with fail
 have h3 : Own w0 F0 (clB g b c p j y fr :: memA T m ws (lg ++ [⟨1, (p.wd j : Nat), y, 0, false⟩]) :: tkR b c p :: L) _ := H2.out
 generalize World.setCell _ _ _ = w3 at h3 ⊢
 refine (HS _).out.mono ?_
 rintro e1 w4 ⟨rfl, hB⟩
 have h4 := h3.below hB
 clear c0 c1 c2 c3 c4 c5 c6 c7 cf H2 hB h3 HS
 obtain ⟨c0, c1, c2, c3, c4, c5, c6, c7, cf⟩ := zZv h4
 have H4 := hid (h4.set 2 (.bool false))
 clear h4
 go_wp2_with fail
 have h5 : Own w0 F0 (clB g b c p j y false :: memA T m ws (lg ++ [⟨1, (p.wd j : Nat), y, 0, false⟩]) :: tkR b c p :: L) _ := H4.out
 generalize World.setCell _ _ _ = w5 at h5 ⊢
 clear c0 c1 c2 c3 c4 c5 c6 c7 cf H4
 obtain ⟨c0, c1, c2, c3, c4, c5, c6, c7, cf⟩ := zZv h5
 have hk := HK.out w5 (h5.under fun _ _ h => h.swap)
 clear h5 HK
 have HK := hid hk
 clear hk
 go_wp2_with fail
 refine HK.out.mono ?_
 rintro e1 w6 ⟨rfl, hE⟩
 have HE := hid hE
 clear hE HK
 go_wp2_with fail
 go_end0
 exact HE.out
theorem clKeep_yes (hp : p.Ok) (hj : j < p.ti) (hl : lg.length < 1000000) (hi : p.wd j < ws.length) (hI : I64 was) (hc : ws.getD (p.wd j) 0 = was)
 (h : Own w0 F0 (clB g b c p j was true :: tkR b c p :: memA T m ws lg :: L) w) :
 Calls Tryz.prog 313 #[.pointer (some ⟨g, 0, none⟩), .pointer (some ⟨m, 0, none⟩)] w fun en w' => en = .returned (.tuple #[]) /\
  Own w0 F0 (blk g (clO (.slice none 0 0) was false (tnW was 1) 0 (p.tic j)) :: memA T m (ws.set (p.wd j) (tnW was 1)) (lg ++ [⟨3, (p.wd j : Nat), was, tnW was 1, true⟩]) :: tkR b c p :: L) w' := by
 obtain ⟨c0, c1, c2, c3, c4, c5, c6, c7, cf⟩ := zZv h
 have hpos : 0 < p.ti - j := by omega
 have h16 := hp.t16
 have hm1 : p.ti - j <= 9223372036854775807 := by omega
 have HT := fun w => hid (zV1 was 1 hI (by unfold W64; decide) w)
 rw [tnV_one] at HT
 have HC := fun L w h => hid (zSe (w0 := w0) (F0 := F0) (L := L) (T := T) (m := m) (ws := ws) (l := lg) (w := w) (p.wd j) was (tnW was 1) hi hl hc h)
 have H1 := hid (h.set 2 (.bool false))
 clear h hI hc hl hi
 generalize tnW was 1 = B at HT HC ⊢
 go_enter Tryz.func313, Tryz.ntmps313
 go_wp2_with fail
 have h2 : Own w0 F0 (clB g b c p j was false :: tkR b c p :: memA T m ws lg :: L) _ := H1.out
 generalize World.setCell _ _ _ = w2 at h2 ⊢
 clear c0 c1 c2 c3 c4 c5 c6 c7 cf H1
 obtain ⟨c0, c1, c2, c3, c4, c5, c6, c7, cf⟩ := zZv h2
 have H2 := hid h2
 clear h2
 go_wp2_with fail
 refine (HT _).out.mono ?_
 rintro e1 w3 ⟨rfl, hB⟩
 have h3 := H2.out.below hB
 clear c0 c1 c2 c3 c4 c5 c6 c7 cf H2 HT hB
 obtain ⟨c0, c1, c2, c3, c4, c5, c6, c7, cf⟩ := zZv h3
 obtain ⟨t0, t1⟩ := zS4 h3.swap j hj
 have hO := h3.p2.drew
 clear h3
 go_wp2_with fail
 go_region_held3 (fun w' => w'.cell? ⟨g, 0, none⟩ = some (.slice (some ⟨b, j * 2, none⟩) (p.ti - j) (c - j)) /\ w'.cell? ⟨g, 1, none⟩ = some (.int .i64 was) /\ w'.cell? ⟨b, j * 2 + 1, none⟩ = some (.int .i64 (p.wd j))) (go_keep) (first | (go_at_call 219; with_reducible refine Calls.mono (Hid.out (HC _ _ hO)) ?_; rintro e w4 ⟨rfl, hM⟩; obtain ⟨d0, d1, d2, d3, d4, d5, d6, d7, df⟩ := zZv hM.swap; obtain ⟨u0, u1⟩ := zS4 hM.p2 j hj))
 have h4 := hM.swap
 clear hM hO HC c0 c1 c2 c3 c4 c5 c6 c7 cf t0 t1
 have H5 := hid (((((((h4.set 3 (.int .i64 B)).set 4 (.int .i64 0)).set 5 (.int .i64 (p.tic j))).set 6 (.bool false)).set 7 (.int .i64 0)).set 0 (.slice none 0 0)))
 clear h4
 go_wp2_with fail
 go_end0
 exact ⟨rfl, H5.out⟩
theorem clKeep_no (hp : p.Ok) (hj : j < p.ti) (hl : lg.length < 1000000) (hi : p.wd j < ws.length) (hI : I64 was) (hc : ws.getD (p.wd j) 0 ≠ was)
 (E : Ending -> World -> Prop)
 (hK : ∀ w2, Own w0 F0 (clB g b c p j was false :: tkR b c p :: memA T m ws (lg ++ [⟨3, (p.wd j : Nat), was, tnW was 1, false⟩]) :: L) w2 -> Calls Tryz.prog 311 #[.pointer (some ⟨g, 0, none⟩)] w2 fun en w' => en = .returned (.tuple #[]) /\ E en w')
 (h : Own w0 F0 (clB g b c p j was true :: tkR b c p :: memA T m ws lg :: L) w) :
 Calls Tryz.prog 313 #[.pointer (some ⟨g, 0, none⟩), .pointer (some ⟨m, 0, none⟩)] w E := by
 obtain ⟨c0, c1, c2, c3, c4, c5, c6, c7, cf⟩ := zZv h
 have hpos : 0 < p.ti - j := by omega
 have h16 := hp.t16
 have hm1 : p.ti - j <= 9223372036854775807 := by omega
 have HT := fun w => hid (zV1 was 1 hI (by unfold W64; decide) w)
 rw [tnV_one] at HT
 have HC := fun L w h => hid (Cas_no (w0 := w0) (F0 := F0) (L := L) (T := T) (m := m) (ws := ws) (l := lg) (w := w) (p.wd j) was (tnW was 1) hi hl hc h)
 have HK := hid hK
 have H1 := hid (h.set 2 (.bool false))
 clear h hI hc hl hi hK
 generalize tnW was 1 = B at HT HC HK
 go_enter Tryz.func313, Tryz.ntmps313
 go_wp2_with fail
 have h2 : Own w0 F0 (clB g b c p j was false :: tkR b c p :: memA T m ws lg :: L) _ := H1.out
 generalize World.setCell _ _ _ = w2 at h2 ⊢
 clear c0 c1 c2 c3 c4 c5 c6 c7 cf H1
 obtain ⟨c0, c1, c2, c3, c4, c5, c6, c7, cf⟩ := zZv h2
 have H2 := hid h2
 clear h2
 go_wp2_with fail
 refine (HT _).out.mono ?_
 rintro e1 w3 ⟨rfl, hB⟩
 have h3 := H2.out.below hB
 clear c0 c1 c2 c3 c4 c5 c6 c7 cf H2 HT hB
 obtain ⟨c0, c1, c2, c3, c4, c5, c6, c7, cf⟩ := zZv h3
 obtain ⟨t0, t1⟩ := zS4 h3.swap j hj
 have hO := h3.p2.drew
 clear h3
 go_wp2_with fail
 go_region_held3 (fun w' => w'.cell? ⟨g, 0, none⟩ = some (.slice (some ⟨b, j * 2, none⟩) (p.ti - j) (c - j)) /\ w'.cell? ⟨g, 1, none⟩ = some (.int .i64 was) /\ w'.cell? ⟨b, j * 2 + 1, none⟩ = some (.int .i64 (p.wd j))) (go_keep) (first | (go_at_call 219; with_reducible refine Calls.mono (Hid.out (HC _ _ hO)) ?_; rintro e w4 ⟨rfl, hM⟩; obtain ⟨d0, d1, d2, d3, d4, d5, d6, d7, df⟩ := zZv hM.swap; obtain ⟨u0, u1⟩ := zS4 hM.p2 j hj))
 have hk := HK.out _ (hM.swap.under fun _ _ h => h.swap)
 clear hM hO HC c0 c1 c2 c3 c4 c5 c6 c7 cf t0 t1 HK d0 d1 d2 d3 d4 d5 d6 d7 df u0 u1
 have HK := hid hk
 clear hk
 go_wp2_with fail
 refine HK.out.mono ?_
 rintro e1 w6 ⟨rfl, hE⟩
 have HE := hid hE
 clear hE HK
 go_wp2_with fail
 go_end0
 exact HE.out
end
section
attribute [local go_sem] Oper.semAt_some
def roO (z : Int) : Obj := .cells #[.int .i64 z] 3 (0, 0)
theorem round_any (t s : Int) (w : World) :
 Calls Tryz.prog 154 #[.int .i64 t, .int .i64 s] w fun e w' =>
  e = .returned (.func (Fn.func 190) #[] #[.pointer (some ⟨w.heap.size, 0, none⟩), .pointer (some ⟨w.heap.size + 1, 0, none⟩)]) /\ w' = (w.alloc (roO t)).alloc (roO s) := by
 go_enter Tryz.func154, Tryz.ntmps154
 go_wp2
 go_ret
 exact ⟨rfl, rfl⟩
theorem round_enters : ∀ args w, (callFunc 190 args).run Tryz.prog w = .ok (.enter 190 args) w := enters_of Tryz.func190 (by kernel_rfl) rfl
theorem wide_deep11 {n : Nat} : Fence.wide.depth.isSome = true -> 1 <= n := fun h => by simp [Fence.wide] at h
theorem round_seq (n : Nat) (p : CP) (hp : p.Ok) (bt bs : Nat) :
 zRy Fence.wide n Tryz.prog 190 #[.pointer (some ⟨bt, 0, none⟩), .pointer (some ⟨bs, 0, none⟩)] (fun i => #[.int .i64 (p.tic i)]) p.ti
  (star (blk bt (roO p.ti)) (blk bs (roO p.st))) w0 F0 L := by
 intro l J Jx W hY h0
 have HY : ∀ (i : Nat) (x : Int) (w1 : World), i < p.ti -> (p.tic i : Int) = x -> Own w0 F0 (star (blk bt (roO p.ti)) (blk bs (roO p.st)) :: J i :: L) w1 -> YieldAt Fence.wide (n - 1) Tryz.prog l #[.int .i64 x] w1 fun e W' =>
  ∃ bb : Bool, e = .returned (.bool bb) /\ Own w0 F0 (star (blk bt (roO p.ti)) (blk bs (roO p.st)) :: (if bb = true then J (i + 1) else Jx (i + 1)) :: L) W' := fun i x w1 hi hx h => by
  subst hx
  obtain ⟨fn, tmps, assign, body, hy, hR⟩ := hY i _ w1 hi h
  refine ⟨fn, tmps, assign, body, hy, hR.mono ?_⟩
  rintro e w' (⟨rfl, hO⟩ | ⟨rfl, hO⟩)
  ·exact ⟨true, rfl, hO⟩
  ·exact ⟨false, rfl, hO⟩
 have HY := hid HY
 have H0 := hid h0.part
 have hs1 := hp.s1
 have ht1 := hp.t1
 have ht16 := hp.t16
 have hz : ((p.ti : Int) == 0) = false := by simp; omega
 have hz2 : ¬ (p.ti : Int) = 0 := by omega
 have hmod : ((p.st : Int).tmod (p.ti : Int)) = ((p.st % p.ti : Nat) : Int) := by
  rw [Int.tmod_eq_emod_of_nonneg (by omega), Int.natCast_emod]
 have hlt : p.st % p.ti < p.ti := Nat.mod_lt _ (by omega)
 have htic : ∀ i, i < p.ti -> (((p.st % p.ti : Nat) : Int) + (i : Int)).tmod (p.ti : Int) = ((p.tic i : Nat) : Int) := fun i hi => by
  rw [Int.tmod_eq_emod_of_nonneg (by omega), <- Int.natCast_add, <- Int.natCast_emod]
  unfold CP.tic
  rw [Nat.mod_add_mod]
 have Htic := hid htic
 have Hlt := hid hlt
 clear hY h0 htic hlt hp
 refine callsIn_of_wp Tryz.func190 rfl trivial ?_ rfl
 simp only [Tryz.ntmps190, List.size_toArray, List.length_cons, List.length_nil, Nat.reduceAdd, Nat.reduceSub, Array.replicate_succ, Array.replicate_zero, List.push_toArray, List.append_toArray, List.nil_append, List.cons_append]
 have dt : W.cell? ⟨bt, 0, none⟩ = some (.int .i64 p.ti) := H0.out.cell (i := 0) rfl
 gi_wp2_with fail
 gi_loopw [6] (fun v6 wr => ∃ i : Nat, i <= p.ti /\ v6 = .int .i64 i /\ Own w0 F0 (blk bt (roO p.ti) :: blk bs (roO p.st) :: J i :: L) wr) (fun v6 _ => p.ti - (intOf v6).toNat)
 case atStart => exact ⟨0, Nat.zero_le _, rfl, H0.out⟩
 case round =>
  clear dt H0
  obtain ⟨i, hi, rfl, hO⟩ := hrel
  have dt : wr.cell? ⟨bt, 0, none⟩ = some (.int .i64 p.ti) := hO.cell (i := 0) rfl
  have ds : wr.cell? ⟨bs, 0, none⟩ = some (.int .i64 p.st) := hO.swap.cell (i := 0) rfl
  have HO := hid hO
  clear hO
  by_cases hlt : i < p.ti
  ·have hmt := Htic.out i hlt
   have hw1 : IntKind.i64.wrap (((p.st % p.ti : Nat) : Int) + (i : Int)) = ((p.st % p.ti : Nat) : Int) + (i : Int) := IntWalk.i64_in _ (by have := Hlt.out; omega)
   obtain ⟨fn, tm, as_, bo, hy, hR⟩ := HY.out i _ wr.drew hlt rfl (HO.out.drew.under fun _ _ h => h).join
   have HR := hid hR
   have dt' : wr.drew.cell? ⟨bt, 0, none⟩ = some (.int .i64 p.ti) := dt
   have ds' : wr.drew.cell? ⟨bs, 0, none⟩ = some (.int .i64 p.st) := ds
   clear hR
   generalize ((p.st % p.ti : Nat) : Int) = M at *
   generalize ((p.tic i : Nat) : Int) = X at *
   gi_wp2_with fail
   gi_region_with (refine ⟨wide_deep11, HR.out.mono ?_⟩; rintro e w2 ⟨bb, rfl, hO2⟩)
   all_goals
    have hO3 := hO2.part
    have HO3 := hid hO3
    clear hO2 hO3
    cases bb with
    | true =>
      have HO4 := hid (show Own w0 F0 (blk bt (roO p.ti) :: blk bs (roO p.st) :: J (i + 1) :: L) _ from HO3.out)
      gi_wp2_with fail
      go_roundw
      case rel => exact ⟨i + 1, by omega, by go_num, HO4.out⟩
      case measure => simp [intOf]; omega
    | false =>
      have HO4 := hid (show Own w0 F0 (blk bt (roO p.ti) :: blk bs (roO p.st) :: Jx (i + 1) :: L) _ from HO3.out)
      gi_wp2_with fail
      refine bodyPost_ret (results_none rfl _ _ _) rfl ?_
      exact ⟨⟨_, rfl⟩, .inr ⟨i, by omega, HO4.out.drop.drop⟩⟩
  ·obtain rfl : i = p.ti := by omega
   gi_wp2_with fail
   go_end0
   exact ⟨⟨_, rfl⟩, .inl HO.out.drop.drop⟩
end
section
def zTu (o : Oper) : Bool := match o.op with
 | .defer _ => false
 | _ => true
variable {n l : Nat} {P : Program} {ops : Array Oper} {Q : Exit -> Act -> World -> Prop} {md : Region.Mode}
theorem wide_wp {o : Oper} {a : Act} {w : World} {K : Act -> World -> Prop} (h : zTu o = true) (hw : o.wp P a w K Q) : o.wpIn (Fence.wide.inRound l) n P a w K Q := by
 refine And.intro (fun f hf => trivial) ?_
 have hd : ∀ c, o.op ≠ .defer c := fun c e => by unfold zTu at h; rw [e] at h; cases h
 rw [Oper.semAt_plain _ _ _ hd]
 have hdp : (Fence.wide.inRound l).depth.isSome = true -> 1 <= n := fun h => by simp [Fence.wide] at h
 unfold Oper.wp at hw
 generalize (execOp a.eval o).run P w = r at hw
 cases r with
 | ok x w' =>
   cases x <;> first
    | exact hw
    | exact (hw : False).elim
    | exact ⟨hdp, CallsIn.inRound l ((callsIn_wide (n := n - 1)).2 hw)⟩
    | exact ⟨hdp, fun c cs _ => let ⟨v, w', r, s⟩ := hw c cs; ⟨v, w', r, stepsIn_wide.2 s⟩⟩
 | halt x w' => cases x <;> first | exact hw | exact (hw : False).elim
theorem wide_op {i : Nat} {a : Act} {w : World} {K K' : Act -> World -> Prop} (hc : ∀ (i : Nat) (o : Oper), ops[i]? = some o -> zTu o = true) (hQ : ¬ LetsOut Q) (hK : ∀ a w, K a w -> K' a w) (h : wpOp P ops Q i K a w) : wpOpIn (Fence.wide.inRound l) n P ops Q i K' a w := by
 unfold wpOp at h
 unfold wpOpIn
 split
 ·rename_i e; rw [e] at h; exact hK _ _ h
 ·rename_i o e
  rw [e] at h
  simp only at h
  split
  ·rename_i hw
   rw [if_pos hw] at h
   rcases h with h | h
   ·exact Oper.wpIn_mono hK (wide_wp (hc i o e) h)
   ·exact absurd h.2 hQ
  ·rename_i hw
   rw [if_neg hw] at h
   exact And.intro (fun f hf => trivial) (hK _ _ h)
theorem wide_any (hc : ∀ (i : Nat) (o : Oper), ops[i]? = some o -> zTu o = true) (hQ : ¬ LetsOut Q) : ∀ (fuel : Nat) (listed : Array Bool) (a : Act) (w : World), wpAny P md ops Q fuel listed a w -> wpAnyIn (Fence.wide.inRound l) n P md ops Q fuel listed a w
 | 0, _, _, _, h => h
 | fuel + 1, listed, a, w, h => ⟨h.1, fun i hi => wide_op hc hQ (fun a w h => wide_any hc hQ fuel _ a w h) (h.2 i hi)⟩
theorem zUk {id : Nat} {a : Act} {w : World} (hm : P.follows .mixedOrders = true) (hc : ops.all zTu = true) (hQ : ¬ LetsOut Q)
 (h : wpAny P .any ops Q ops.size (Array.replicate ops.size false) a w.drew) : (Code.region id ops true).wpIn (Fence.wide.inRound l) n P Q a w :=
 wpIn_region_any hm (wide_any (fun i o ho => by
  have := Array.all_eq_true_iff_forall_mem.1 hc o (Array.mem_of_getElem? ho)
  exact this) hQ _ _ _ _ h)
end
section
attribute [local go_sem] Oper.semAt_some
variable {pp pl : Option Addr} {cp cl B i : Nat} {c : Cf} {p : CP} {A R : Asn} {vp vl v vp' : Value}
def nwI (B : Nat) (c : Cf) (vp vl : Value) (p : CP) (i : Nat) : Asn := ex fun v : Value => star (blk B (cfO c vp vl)) (star (blk (B + 1 + 1) (.cells #[.pointer (some ⟨B + 1, 0, none⟩)] 149 (0, 0))) (star (blk (B + 1) (clO v 0 false 0 0 0)) (row v 187 2 i (tixC p i))))
theorem nw_E (h : Own w0 F0 (nwI B c vp vl p i :: L) w) : ∃ v, Own w0 F0 (blk B (cfO c vp vl) :: blk (B + 1 + 1) (.cells #[.pointer (some ⟨B + 1, 0, none⟩)] 149 (0, 0)) :: blk (B + 1) (clO v 0 false 0 0 0) :: row v 187 2 i (tixC p i) :: L) w := by
 obtain ⟨v, h⟩ := h.exE
 exact ⟨v, h.part.under fun _ _ h => h.part.under fun _ _ h => h.part⟩
theorem nw_in (h : Own w0 F0 (blk B (cfO c vp vl) :: blk (B + 1 + 1) (.cells #[.pointer (some ⟨B + 1, 0, none⟩)] 149 (0, 0)) :: blk (B + 1) (clO v 0 false 0 0 0) :: row v 187 2 i (tixC p i) :: L) w) : Own w0 F0 (nwI B c vp vl p i :: L) w :=
 Own.exI (A := fun v : Value => star (blk B (cfO c vp vl)) (star (blk (B + 1 + 1) (.cells #[.pointer (some ⟨B + 1, 0, none⟩)] 149 (0, 0))) (star (blk (B + 1) (clO v 0 false 0 0 0)) (row v 187 2 i (tixC p i))))) v ((h.under fun _ _ h => (h.under fun _ _ h => h.join).join).join)
theorem nw_I (h : Own w0 F0 (blk (B + 1) (.cells (#[v, .int .i64 0, .bool false, .int .i64 0, .int .i64 0, .int .i64 0, .bool false, .int .i64 0].setIfInBounds 0 vp') 184 (0, 0)) :: row vp' 187 2 (i + 1) (tixC p (i + 1)) :: blk B (cfO c vp vl) :: blk (B + 1 + 1) (.cells #[.pointer (some ⟨B + 1, 0, none⟩)] 149 (0, 0)) :: R :: L) w) : Own w0 F0 (R :: nwI B c vp vl p (i + 1) :: L) w := by
 have h' : Own w0 F0 (blk (B + 1) (clO vp' 0 false 0 0 0) :: row vp' 187 2 (i + 1) (tixC p (i + 1)) :: blk B (cfO c vp vl) :: blk (B + 1 + 1) (.cells #[.pointer (some ⟨B + 1, 0, none⟩)] 149 (0, 0)) :: R :: L) w := h
 exact (nw_in ((h'.p2.under fun _ _ h => h.p2))).swap
theorem nw_S (h : Own w0 F0 (blk B (cfO c (.slice pp c.ps.length cp) (.slice pl c.ls.length cl)) :: blk (B + 1 + 1) (.cells #[.pointer (some ⟨B + 1, 0, none⟩)] 149 (0, 0)) :: L) w) : (fun w' => w'.cell? ⟨B + 1 + 1, 0, none⟩ = some (.pointer (some ⟨B + 1, 0, none⟩)) /\ w'.cell? ⟨B, 0, none⟩ = some (.int .i64 c.th) /\ w'.cell? ⟨B, 1, none⟩ = some (.int .i64 c.st) /\ w'.cell? ⟨B, 2, none⟩ = some (.int .i64 c.ga) /\ w'.cell? ⟨B, 3, none⟩ = some (.int .i64 c.le) /\ w'.cell? ⟨B, 4, none⟩ = some (.int .i64 c.re) /\ w'.cell? ⟨B, 5, none⟩ = some (.int .i64 c.ti) /\ w'.cell? ⟨B, 6, none⟩ = some (.slice pp c.ps.length cp) /\ w'.cell? ⟨B, 7, none⟩ = some (.slice pl c.ls.length cl)) w := by
 obtain ⟨d0, d1, d2, d3, d4, d5, d6, d7⟩ := zZa h
 exact ⟨h.swap.cell (i := 0) rfl, d0, d1, d2, d3, d4, d5, d6, d7⟩
theorem Tryz.info_ticket : (Tryz.prog.info? 187).map (fun i => (i.zero, i.size, i.bytes)) = some (some (.agg #[.int .i64 0, .int .i64 0]), 2, 16) := by kernel_rfl
theorem clNew_row (c : Cf) (hr : c.Rt) (st : Nat) (h0 : st <= 1000) (h : Own w0 F0 L w) :
 Calls Tryz.prog 124 #[cfV c (.slice pp c.ps.length cp) (.slice pl c.ls.length cl), .int .i64 st] w fun e w' =>
  ∃ g, e = .returned (.pointer (some ⟨g, 0, none⟩)) /\ ∃ v, Own w0 F0 (blk g (clO v 0 false 0 0 0) :: row v 187 2 (cpC c st).ti (tixC (cpC c st) (cpC c st).ti) :: L) w' := by
 have hp := cpC_ok hr st h0
 obtain ⟨k1, k2, k3, k4, k5, k6⟩ := tk_eq hr
 refine (callsIn_wide (n := 3)).1 ?_
 have HT : ∀ j w, j < (cpC c st).ti -> Hid (Calls Tryz.prog 155 #[cfV c (.slice pp c.ps.length cp) (.slice pl c.ls.length cl), .int .i64 ((cpC c st).tic j)] w fun e w' => e = .returned (.int .i64 ((cpC c st).wd j)) /\ Below w.heap.size w w') := fun j w hj => by
  have := zQy (pp := pp) (np := c.ps.length) (cp := cp) (pl := pl) (nl := c.ls.length) (cl := cl) c hr.sm hr.n1 (((cpC c st).tic j : Nat) : Int) (by omega) (by have := zTl hp j; have := hp.t16; omega) w
  rw [k1, show ((limN c c.ps.length : Nat) : Int) + 2 * (((cpC c st).tic j : Nat) : Int) = (((cpC c st).wd j : Nat) : Int) by unfold CP.wd; show _ = (((limN c c.ps.length) + 2 * (cpC c st).tic j : Nat) : Int); omega] at this
  exact hid this
 have ht1 := hp.t1
 have ht16 := hp.t16
 have hti : c.ti = ((cpC c st).ti : Int) := by show c.ti = (c.ti.toNat : Int); have := hr.ti; unfold Bd at this; omega
 have H1 := hid h
 have HR := fun w => hid (round_any c.ti st w)
 have hm1 : c.ti <= 16 := by omega
 have hm2 : ¬ 16 < c.ti := by omega
 have hm3 : decide (16 < c.ti) = false := by simp; omega
 have hm4 : decide (c.ti <= 16) = true := by simp; omega
 have hm5 : decide ((st : Int) < 0) = false := by simp
 have Hti := hid hti
 have Hst : Hid ((st : Int) = ((cpC c st).st : Int)) := hid rfl
 have HQ := hid (fun n bt bs L => round_seq (w0 := w0) (F0 := F0) (L := L) n (cpC c st) hp bt bs)
 obtain ⟨i0, hi0, hz0, hz1, hz2⟩ := info_parts Tryz.info_ticket
 clear k1 k2 k3 k4 k5 k6 hti hp hr h
 generalize cpC c st = p at *
 refine callsIn_of_wp_marks Tryz.func124 rfl trivial ?_ rfl
 simp only [Tryz.ntmps124, List.size_toArray, List.length_cons, List.length_nil, Nat.reduceAdd, Nat.reduceSub, Array.replicate_succ, Array.replicate_zero, List.push_toArray, List.append_toArray, List.nil_append, List.cons_append]
 gi_wp2_with fail
 refine ⟨trivial, (callsIn_wide.2 (HR _).out).mono ?_⟩
 rintro e w2 ⟨rfl, rfl⟩
 have hO := ((((H1.out.new (cfO c (.slice pp c.ps.length cp) (.slice pl c.ls.length cl))).new (clO (.slice none 0 0) 0 false 0 0 0)).new (.cells #[.pointer (some ⟨w.heap.size + 1, 0, none⟩)] 149)).new (roO c.ti)).new (roO st)
 simp only [World.size_alloc] at hO ⊢
 have HO := hid hO
 clear hO HR H1 hm1 hm2 hm3 hm4 hm5
 gi_wp2_with fail
 have hO := HO.out
 clear HO
 unfold cfO clO at hO
 generalize World.alloc (World.alloc (World.alloc (World.alloc (World.alloc w _) _) _) _) _ = w5 at hO ⊢
 generalize w.heap.size = B at hO ⊢
 have hO1 : Own w0 F0 (blk (B + 1 + 1 + 1 + 1) (roO st) :: blk (B + 1 + 1 + 1) (roO c.ti) :: blk (B + 1 + 1) (.cells #[.pointer (some ⟨B + 1, 0, none⟩)] 149 (0, 0)) :: blk (B + 1) (clO (.slice none 0 0) 0 false 0 0 0) :: blk B (cfO c (.slice pp c.ps.length cp) (.slice pl c.ls.length cl)) :: L) w5 := hO
 rw [Hst.out, Hti.out] at hO1
 have hO2 := hO1.swap.join.under fun _ _ h => ((h.p2.under fun _ _ h => (h.under fun _ _ h => h.rowNil (e := 187) (size := 2)).under fun _ _ h => h.swap))
 have hO3 := hO2.under fun _ _ h => nw_in (p := p) (i := 0) h
 clear hO hO1 hO2
 refine zYe rfl (by omega) (gf := 190) (lb := #[.pointer (some ⟨B + 1 + 1 + 1, 0, none⟩), .pointer (some ⟨B + 1 + 1 + 1 + 1, 0, none⟩)]) rfl trivial round_enters (HQ.out 2 _ _ L) (fun _ => rfl)
  (fun i => nwI B c (.slice pp c.ps.length cp) (.slice pl c.ls.length cl) p i) (fun _ _ => pur False) ?h0
  (fun i => { tmps := #[cfV c (.slice pp c.ps.length cp) (.slice pl c.ls.length cl), .int .i64 st, .pointer (some ⟨B, 0, none⟩), undef, .pointer none, .int .i64 c.ti, .pointer (some ⟨B + 1 + 1, 0, none⟩), .int .i64 (p.tic i), .pointer (some ⟨B, 5, none⟩), .int .i64 c.ti, .int .i64 c.ti, .int .i64 st, .int .i64 st, .agg #[.slice none 0 0, .int .i64 0, .bool false, .int .i64 0, .int .i64 0, .int .i64 0, .bool false, .int .i64 0], .pointer (some ⟨B + 1, 0, none⟩), .int .i64 c.ti, .int .i64 st, .func (Fn.func 190) #[] #[.pointer (some ⟨B + 1 + 1 + 1, 0, none⟩), .pointer (some ⟨B + 1 + 1 + 1 + 1, 0, none⟩)], .int .i64 (p.tic i), undef, undef, undef, undef, undef, undef, undef, undef, undef, undef, undef, undef, undef, undef, undef], defers := [] }) ?assign ?body ?done ?stop
 case h0 => exact hO3
 case assign =>
  intro l i W K hK
  gi_wp2
  exact hK
 case body =>
  intro l i R W hi hO
  clear hO3 HQ
  obtain ⟨v, hS⟩ := nw_E hO.swap
  obtain ⟨q, cap, rfl⟩ := zZe hS.p3
  have c0 : W.drew.cell? ⟨B + 1, 0, none⟩ = some (.slice q i cap) := hS.p2.cell (i := 0) rfl
  have b1 : i + 1 <= maxLen := by unfold maxLen; omega
  have b2 : (i + 1) * 16 <= 140737488355328 := by omega
  have hS2 := hS.drew
  clear hS hO
  have hS := hS2
  clear hS2
  have hHeld := nw_S hS
  gi_wp2_with fail
  refine zUk (by kernel_rfl) (by kernel_rfl) (by rintro ⟨_, _, h⟩; exact h) (wpAny_of_held (S := (fun w' => w'.cell? ⟨B + 1 + 1, 0, none⟩ = some (.pointer (some ⟨B + 1, 0, none⟩)) /\ w'.cell? ⟨B, 0, none⟩ = some (.int .i64 c.th) /\ w'.cell? ⟨B, 1, none⟩ = some (.int .i64 c.st) /\ w'.cell? ⟨B, 2, none⟩ = some (.int .i64 c.ga) /\ w'.cell? ⟨B, 3, none⟩ = some (.int .i64 c.le) /\ w'.cell? ⟨B, 4, none⟩ = some (.int .i64 c.re) /\ w'.cell? ⟨B, 5, none⟩ = some (.int .i64 c.ti) /\ w'.cell? ⟨B, 6, none⟩ = some (.slice pp c.ps.length cp) /\ w'.cell? ⟨B, 7, none⟩ = some (.slice pl c.ls.length cl))) _ _ _ _ ?_)
  refine wpAnyH_take (i := 0) (v := ?v0_1) rfl (by kernel_rfl) (by kernel_rfl) (by kernel_rfl) (fun _ _ _ h => h) (Or.inl ⟨by kernel_rfl, ?y0_1⟩) (by assumption) ?r0_1
  case y0_1 => (intro w hSw; (try dsimp only at hSw); first | (go_simp; done) | (go_simp; with_reducible rfl))
  try simp only [Act.put, List.setIfInBounds_toArray, List.set_cons_zero, List.set_cons_succ]
  refine wpAnyH_take (i := 1) (v := ?v1_2) rfl (by kernel_rfl) (by kernel_rfl) (by kernel_rfl) (fun _ _ _ h => h) (Or.inl ⟨by kernel_rfl, ?y1_2⟩) (by assumption) ?r1_2
  case y1_2 => (intro w hSw; (try dsimp only at hSw); first | (go_simp; done) | (go_simp; with_reducible rfl))
  try simp only [Act.put, List.setIfInBounds_toArray, List.set_cons_zero, List.set_cons_succ]
  refine wpAnyH_take (i := 2) (v := ?v2_3) rfl (by kernel_rfl) (by kernel_rfl) (by kernel_rfl) (fun _ _ _ h => h) (Or.inl ⟨by kernel_rfl, ?y2_3⟩) (by assumption) ?r2_3
  case y2_3 => (intro w hSw; (try dsimp only at hSw); first | (go_simp; done) | (go_simp; with_reducible rfl))
  try simp only [Act.put, List.setIfInBounds_toArray, List.set_cons_zero, List.set_cons_succ]
  refine wpAnyH_take (i := 3) (v := ?v3_4) rfl (by kernel_rfl) (by kernel_rfl) (by kernel_rfl) (fun _ _ _ h => h) (Or.inl ⟨by kernel_rfl, ?y3_4⟩) (by assumption) ?r3_4
  case y3_4 => (intro w hSw; (try dsimp only at hSw); first | (go_simp; done) | (go_simp; with_reducible rfl))
  try simp only [Act.put, List.setIfInBounds_toArray, List.set_cons_zero, List.set_cons_succ]
  refine wpAnyH_take (i := 5) (v := ?v5_5) rfl (by kernel_rfl) (by kernel_rfl) (by kernel_rfl) (fun _ _ _ h => h) (Or.inl ⟨by kernel_rfl, ?y5_5⟩) (by assumption) ?r5_5
  case y5_5 => (intro w hSw; (try dsimp only at hSw); first | (go_simp; done) | (go_simp; with_reducible rfl))
  try simp only [Act.put, List.setIfInBounds_toArray, List.set_cons_zero, List.set_cons_succ]
  refine wpAnyH_take (i := 6) (v := ?v6_6) rfl (by kernel_rfl) (by kernel_rfl) (by kernel_rfl) (fun _ _ _ h => h) (Or.inl ⟨by kernel_rfl, ?y6_6⟩) (by assumption) ?r6_6
  case y6_6 => (intro w hSw; (try dsimp only at hSw); first | (go_simp; done) | (go_simp; with_reducible rfl))
  try simp only [Act.put, List.setIfInBounds_toArray, List.set_cons_zero, List.set_cons_succ]
  refine wpAnyH_take (i := 7) (v := ?v7_7) rfl (by kernel_rfl) (by kernel_rfl) (by kernel_rfl) (fun _ _ _ h => h) (Or.inl ⟨by kernel_rfl, ?y7_7⟩) (by assumption) ?r7_7
  case y7_7 => (intro w hSw; (try dsimp only at hSw); first | (go_simp; done) | (go_simp; with_reducible rfl))
  try simp only [Act.put, List.setIfInBounds_toArray, List.set_cons_zero, List.set_cons_succ]
  refine wpAnyH_ready (rs := [4, 8]) (by kernel_rfl) (by simp) ?_
  refine AllReadyH.cons rfl (fun K hK => ?_) (AllReadyH.cons rfl (fun K hK => ?_) (AllReadyH.nil))
  ·go_simp
   refine hK.out _ _ ?_ (fun hHeld => ?_)
   ·exact nw_S hS
   clear hK K
   try simp only [Act.put, List.setIfInBounds_toArray, List.set_cons_zero, List.set_cons_succ]
   refine wpAnyH_ready (rs := [8]) (by kernel_rfl) (by simp) ?_
   refine AllReadyH.cons rfl (fun K hK => ?_) AllReadyH.nil
   go_simp
   with_reducible refine Calls.mono (Hid.out (HT i _ hi)) ?_
   rintro e w4 ⟨rfl, hB⟩
   have hS4 := hS.below hB
   clear hS hB
   have hS := hS4
   clear hS4
   have c0 : w4.cell? ⟨B + 1, 0, none⟩ = some (.slice q i cap) := hS.p2.cell (i := 0) rfl
   refine hK.out _ _ ?_ (fun hHeld => ?_)
   ·exact nw_S hS
   clear hK K
   try simp only [Act.put, List.setIfInBounds_toArray, List.set_cons_zero, List.set_cons_succ]
   refine wpAnyH_take (i := 9) (v := ?v9_8) rfl (by kernel_rfl) (by kernel_rfl) (by kernel_rfl) (fun _ _ _ h => h) (Or.inl ⟨by kernel_rfl, ?y9_8⟩) (by assumption) ?r9_8
   case y9_8 => (intro w hSw; (try dsimp only at hSw); first | (go_simp; done) | (go_simp; with_reducible rfl))
   try simp only [Act.put, List.setIfInBounds_toArray, List.set_cons_zero, List.set_cons_succ]
   refine wpAnyH_ready (rs := [10]) (by kernel_rfl) (by simp) ?_
   refine AllReadyH.cons rfl (fun K hK => ?_) AllReadyH.nil
   go_simp
   have hA := hS.alloc (.cells #[.int .i64 (p.tic i), .int .i64 (p.wd i)] 187)
   have Hn := hid (zYd w4 [.int .i64 (p.tic i), .int .i64 (p.wd i)] 187 w4.heap.size rfl)
   have c0 : (w4.alloc (.cells #[.int .i64 (p.tic i), .int .i64 (p.wd i)] 187)).cell? ⟨B + 1, 0, none⟩ = some (.slice q i cap) := hA.p2.cell (i := 0) rfl
   clear hS
   have hS := hA
   clear hA
   refine hK.out _ _ ?_ (fun hHeld => ?_)
   ·exact nw_S hS
   clear hK K
   try simp only [Act.put, List.setIfInBounds_toArray, List.set_cons_zero, List.set_cons_succ]
   refine wpAnyH_ready (rs := [11]) (by kernel_rfl) (by simp) ?_
   refine AllReadyH.cons rfl (fun K hK => ?_) AllReadyH.nil
   refine zZp rfl (.tmp 23) (.tmp 29) 182 rfl 187 i0 _ Tryz.underlying182 hi0 hz0 hz1 hz2 rfl (by decide) (by simp [Act.eval]) hS.p3 ⟨w4.heap.size, 0, none⟩ 1 1 [.int .i64 (p.tic i), .int .i64 (p.wd i)] (by simp [Act.eval]) rfl Hn.out (by simp [Value.oneCell']) b1 b2 ?_
   intro v' w5 hR hgr hn
   obtain ⟨p', cp', rfl⟩ := zZe hR
   clear hgr hn hS
   have hS := (hR.p3).swap.under fun _ _ h => h
   have f1 : w5.frozen? ⟨B + 1, 0, none⟩ = false := hR.p3.unfrozen
   have k1 : w5.cell? ⟨B + 1, 0, none⟩ = some (.slice q i cap) := hR.p3.cell (i := 0) rfl
   refine hK.out _ _ ?_ (fun hHeld => ?_)
   ·exact nw_S (hR.perm ((List.Perm.swap _ _ _).trans (List.Perm.cons _ (List.Perm.swap _ _ _))))
   clear hK K
   try simp only [Act.put, List.setIfInBounds_toArray, List.set_cons_zero, List.set_cons_succ]
   refine wpAnyH_take (i := 12) (v := ?v12_9) rfl (by kernel_rfl) (by kernel_rfl) (by kernel_rfl) (fun _ _ _ h => h) (Or.inl ⟨by kernel_rfl, ?y12_9⟩) (by assumption) ?r12_9
   case y12_9 => (intro w hSw; (try dsimp only at hSw); first | (go_simp; done) | (go_simp; with_reducible rfl))
   try simp only [Act.put, List.setIfInBounds_toArray, List.set_cons_zero, List.set_cons_succ]
   refine wpAnyH_take (i := 13) (v := ?v13_10) rfl (by kernel_rfl) (by kernel_rfl) (by kernel_rfl) (fun _ _ _ h => h) (Or.inl ⟨by kernel_rfl, ?y13_10⟩) (by assumption) ?r13_10
   case y13_10 => (intro w hSw; (try dsimp only at hSw); first | (go_simp; done) | (go_simp; with_reducible rfl))
   try simp only [Act.put, List.setIfInBounds_toArray, List.set_cons_zero, List.set_cons_succ]
   refine wpAnyH_ready (rs := [14]) (by kernel_rfl) (by simp) ?_
   refine AllReadyH.cons rfl (fun K hK => ?_) AllReadyH.nil
   go_simp
   have hF := (hR.p3).set 0 (.slice p' (i + 1) cp')
   refine hK.out _ _ ?_ (fun hHeld => ?_)
   ·exact nw_S (hF.p3.under fun _ _ h => h.p2).swap
   clear hK K
   try simp only [Act.put, List.setIfInBounds_toArray, List.set_cons_zero, List.set_cons_succ]
   refine wpAnyH_done (by kernel_rfl) ?_ _
   rw [<- zWg] at hF
   exact nw_I hF
  ·go_simp
   with_reducible refine Calls.mono (Hid.out (HT i _ hi)) ?_
   rintro e w4 ⟨rfl, hB⟩
   have hS4 := hS.below hB
   clear hS hB
   have hS := hS4
   clear hS4
   have c0 : w4.cell? ⟨B + 1, 0, none⟩ = some (.slice q i cap) := hS.p2.cell (i := 0) rfl
   refine hK.out _ _ ?_ (fun hHeld => ?_)
   ·exact nw_S hS
   clear hK K
   try simp only [Act.put, List.setIfInBounds_toArray, List.set_cons_zero, List.set_cons_succ]
   refine wpAnyH_take (i := 9) (v := ?v9_11) rfl (by kernel_rfl) (by kernel_rfl) (by kernel_rfl) (fun _ _ _ h => h) (Or.inl ⟨by kernel_rfl, ?y9_11⟩) (by assumption) ?r9_11
   case y9_11 => (intro w hSw; (try dsimp only at hSw); first | (go_simp; done) | (go_simp; with_reducible rfl))
   try simp only [Act.put, List.setIfInBounds_toArray, List.set_cons_zero, List.set_cons_succ]
   refine wpAnyH_ready (rs := [4, 10]) (by kernel_rfl) (by simp) ?_
   refine AllReadyH.cons rfl (fun K hK => ?_) (AllReadyH.cons rfl (fun K hK => ?_) (AllReadyH.nil))
   ·go_simp
    refine hK.out _ _ ?_ (fun hHeld => ?_)
    ·exact nw_S hS
    clear hK K
    try simp only [Act.put, List.setIfInBounds_toArray, List.set_cons_zero, List.set_cons_succ]
    refine wpAnyH_ready (rs := [10]) (by kernel_rfl) (by simp) ?_
    refine AllReadyH.cons rfl (fun K hK => ?_) AllReadyH.nil
    go_simp
    have hA := hS.alloc (.cells #[.int .i64 (p.tic i), .int .i64 (p.wd i)] 187)
    have Hn := hid (zYd w4 [.int .i64 (p.tic i), .int .i64 (p.wd i)] 187 w4.heap.size rfl)
    have c0 : (w4.alloc (.cells #[.int .i64 (p.tic i), .int .i64 (p.wd i)] 187)).cell? ⟨B + 1, 0, none⟩ = some (.slice q i cap) := hA.p2.cell (i := 0) rfl
    clear hS
    have hS := hA
    clear hA
    refine hK.out _ _ ?_ (fun hHeld => ?_)
    ·exact nw_S hS
    clear hK K
    try simp only [Act.put, List.setIfInBounds_toArray, List.set_cons_zero, List.set_cons_succ]
    refine wpAnyH_ready (rs := [11]) (by kernel_rfl) (by simp) ?_
    refine AllReadyH.cons rfl (fun K hK => ?_) AllReadyH.nil
    refine zZp rfl (.tmp 23) (.tmp 29) 182 rfl 187 i0 _ Tryz.underlying182 hi0 hz0 hz1 hz2 rfl (by decide) (by simp [Act.eval]) hS.p3 ⟨w4.heap.size, 0, none⟩ 1 1 [.int .i64 (p.tic i), .int .i64 (p.wd i)] (by simp [Act.eval]) rfl Hn.out (by simp [Value.oneCell']) b1 b2 ?_
    intro v' w5 hR hgr hn
    obtain ⟨p', cp', rfl⟩ := zZe hR
    clear hgr hn hS
    have hS := (hR.p3).swap.under fun _ _ h => h
    have f1 : w5.frozen? ⟨B + 1, 0, none⟩ = false := hR.p3.unfrozen
    have k1 : w5.cell? ⟨B + 1, 0, none⟩ = some (.slice q i cap) := hR.p3.cell (i := 0) rfl
    refine hK.out _ _ ?_ (fun hHeld => ?_)
    ·exact nw_S (hR.perm ((List.Perm.swap _ _ _).trans (List.Perm.cons _ (List.Perm.swap _ _ _))))
    clear hK K
    try simp only [Act.put, List.setIfInBounds_toArray, List.set_cons_zero, List.set_cons_succ]
    refine wpAnyH_take (i := 12) (v := ?v12_12) rfl (by kernel_rfl) (by kernel_rfl) (by kernel_rfl) (fun _ _ _ h => h) (Or.inl ⟨by kernel_rfl, ?y12_12⟩) (by assumption) ?r12_12
    case y12_12 => (intro w hSw; (try dsimp only at hSw); first | (go_simp; done) | (go_simp; with_reducible rfl))
    try simp only [Act.put, List.setIfInBounds_toArray, List.set_cons_zero, List.set_cons_succ]
    refine wpAnyH_take (i := 13) (v := ?v13_13) rfl (by kernel_rfl) (by kernel_rfl) (by kernel_rfl) (fun _ _ _ h => h) (Or.inl ⟨by kernel_rfl, ?y13_13⟩) (by assumption) ?r13_13
    case y13_13 => (intro w hSw; (try dsimp only at hSw); first | (go_simp; done) | (go_simp; with_reducible rfl))
    try simp only [Act.put, List.setIfInBounds_toArray, List.set_cons_zero, List.set_cons_succ]
    refine wpAnyH_ready (rs := [14]) (by kernel_rfl) (by simp) ?_
    refine AllReadyH.cons rfl (fun K hK => ?_) AllReadyH.nil
    go_simp
    have hF := (hR.p3).set 0 (.slice p' (i + 1) cp')
    refine hK.out _ _ ?_ (fun hHeld => ?_)
    ·exact nw_S (hF.p3.under fun _ _ h => h.p2).swap
    clear hK K
    try simp only [Act.put, List.setIfInBounds_toArray, List.set_cons_zero, List.set_cons_succ]
    refine wpAnyH_done (by kernel_rfl) ?_ _
    rw [<- zWg] at hF
    exact nw_I hF
   ·go_simp
    have hA := hS.alloc (.cells #[.int .i64 (p.tic i), .int .i64 (p.wd i)] 187)
    have Hn := hid (zYd w4 [.int .i64 (p.tic i), .int .i64 (p.wd i)] 187 w4.heap.size rfl)
    have c0 : (w4.alloc (.cells #[.int .i64 (p.tic i), .int .i64 (p.wd i)] 187)).cell? ⟨B + 1, 0, none⟩ = some (.slice q i cap) := hA.p2.cell (i := 0) rfl
    clear hS
    have hS := hA
    clear hA
    refine hK.out _ _ ?_ (fun hHeld => ?_)
    ·exact nw_S hS
    clear hK K
    try simp only [Act.put, List.setIfInBounds_toArray, List.set_cons_zero, List.set_cons_succ]
    refine wpAnyH_ready (rs := [4]) (by kernel_rfl) (by simp) ?_
    refine AllReadyH.cons rfl (fun K hK => ?_) AllReadyH.nil
    go_simp
    refine hK.out _ _ ?_ (fun hHeld => ?_)
    ·exact nw_S hS
    clear hK K
    try simp only [Act.put, List.setIfInBounds_toArray, List.set_cons_zero, List.set_cons_succ]
    refine wpAnyH_ready (rs := [11]) (by kernel_rfl) (by simp) ?_
    refine AllReadyH.cons rfl (fun K hK => ?_) AllReadyH.nil
    refine zZp rfl (.tmp 23) (.tmp 29) 182 rfl 187 i0 _ Tryz.underlying182 hi0 hz0 hz1 hz2 rfl (by decide) (by simp [Act.eval]) hS.p3 ⟨w4.heap.size, 0, none⟩ 1 1 [.int .i64 (p.tic i), .int .i64 (p.wd i)] (by simp [Act.eval]) rfl Hn.out (by simp [Value.oneCell']) b1 b2 ?_
    intro v' w5 hR hgr hn
    obtain ⟨p', cp', rfl⟩ := zZe hR
    clear hgr hn hS
    have hS := (hR.p3).swap.under fun _ _ h => h
    have f1 : w5.frozen? ⟨B + 1, 0, none⟩ = false := hR.p3.unfrozen
    have k1 : w5.cell? ⟨B + 1, 0, none⟩ = some (.slice q i cap) := hR.p3.cell (i := 0) rfl
    refine hK.out _ _ ?_ (fun hHeld => ?_)
    ·exact nw_S (hR.perm ((List.Perm.swap _ _ _).trans (List.Perm.cons _ (List.Perm.swap _ _ _))))
    clear hK K
    try simp only [Act.put, List.setIfInBounds_toArray, List.set_cons_zero, List.set_cons_succ]
    refine wpAnyH_take (i := 12) (v := ?v12_14) rfl (by kernel_rfl) (by kernel_rfl) (by kernel_rfl) (fun _ _ _ h => h) (Or.inl ⟨by kernel_rfl, ?y12_14⟩) (by assumption) ?r12_14
    case y12_14 => (intro w hSw; (try dsimp only at hSw); first | (go_simp; done) | (go_simp; with_reducible rfl))
    try simp only [Act.put, List.setIfInBounds_toArray, List.set_cons_zero, List.set_cons_succ]
    refine wpAnyH_take (i := 13) (v := ?v13_15) rfl (by kernel_rfl) (by kernel_rfl) (by kernel_rfl) (fun _ _ _ h => h) (Or.inl ⟨by kernel_rfl, ?y13_15⟩) (by assumption) ?r13_15
    case y13_15 => (intro w hSw; (try dsimp only at hSw); first | (go_simp; done) | (go_simp; with_reducible rfl))
    try simp only [Act.put, List.setIfInBounds_toArray, List.set_cons_zero, List.set_cons_succ]
    refine wpAnyH_ready (rs := [14]) (by kernel_rfl) (by simp) ?_
    refine AllReadyH.cons rfl (fun K hK => ?_) AllReadyH.nil
    go_simp
    have hF := (hR.p3).set 0 (.slice p' (i + 1) cp')
    refine hK.out _ _ ?_ (fun hHeld => ?_)
    ·exact nw_S (hF.p3.under fun _ _ h => h.p2).swap
    clear hK K
    try simp only [Act.put, List.setIfInBounds_toArray, List.set_cons_zero, List.set_cons_succ]
    refine wpAnyH_done (by kernel_rfl) ?_ _
    rw [<- zWg] at hF
    exact nw_I hF
 case done =>
  intro D W hO
  have hK := hO.block
  obtain ⟨v, hS⟩ := nw_E hO.swap
  have c0 : W.cell? ⟨B + 1 + 1, 0, none⟩ = some (.pointer (some ⟨B + 1, 0, none⟩)) := hS.swap.cell (i := 0) rfl
  have HF := hid ((hS.p4.put (.deferred none)).drop.drop.drop)
  have HK := hid hK
  clear hO hK hS hO3 HQ
  gi_wp2
  refine ⟨by simp, .inl ⟨_, _, rfl, run_takeDeferred HK.out, ?_⟩⟩
  exact ⟨_, results_tmp rfl _ _ _, _, rfl, _, HF.out⟩
 case stop =>
  intro D c i W _ h
  exact h.swap.purE.1.elim
end
section
variable {g b j c k : Nat} {was wd er n : Int} {fr : Bool} {p : CP} {q : Option Addr} {pp pl : Option Addr} {cp cl : Nat}
theorem clStep_fin (r : Value) (h : Own w0 F0 (blk g (clO (.slice q 0 c) was fr wd er n) :: L) w) :
 Calls Tryz.prog 310 #[.pointer (some ⟨g, 0, none⟩), r] w fun en w' => en = .returned (.bool true) /\ w = w' := by
 have HE := hid (zWb h)
 clear h
 go_enter Tryz.func310, Tryz.ntmps310
 go_wp2_with fail
 refine HE.out.mono ?_
 rintro e1 w2 ⟨rfl, rfl⟩
 go_wp2_with fail
 go_ret
 exact ⟨rfl, rfl⟩
theorem zT6 (bb : Bool) (R : World -> Prop) (hk : 1 <= k) (h : Own w0 F0 (blk g (clO (.slice q k c) was false wd er n) :: L) w)
 (HF : Calls Tryz.prog 314 #[.pointer (some ⟨g, 0, none⟩), .pointer (some ⟨m, 0, none⟩)] w fun en w' => en = .returned (.tuple #[]) /\ R w')
 (HE : ∀ w', R w' -> Calls Tryz.prog 312 #[.pointer (some ⟨g, 0, none⟩)] w' fun en w'' => en = .returned (.bool bb) /\ w' = w'') :
 Calls Tryz.prog 310 #[.pointer (some ⟨g, 0, none⟩), .pointer (some ⟨m, 0, none⟩)] w fun en w' => en = .returned (.bool bb) /\ R w' := by
 have H0 := hid (zXx hk h)
 obtain ⟨c0, c1, c2, c3, c4, c5, c6, c7, cf⟩ := zZv h
 have HF := hid HF
 have HE := hid HE
 clear h
 go_enter Tryz.func310, Tryz.ntmps310
 go_wp2_with fail
 refine H0.out.mono ?_
 rintro e1 w2 ⟨rfl, rfl⟩
 go_wp2_with fail
 refine HF.out.mono ?_
 rintro e1 w2 ⟨rfl, hR⟩
 have HR := hid hR
 clear hR HF H0 c0 c1 c2 c3 c4 c5 c6 c7 cf
 go_wp2_with fail
 refine (HE.out _ HR.out).mono ?_
 rintro e1 w3 ⟨rfl, rfl⟩
 go_wp2_with fail
 go_ret
 exact ⟨rfl, HR.out⟩
theorem zT5 (bb : Bool) (R : World -> Prop) (hk : 1 <= k) (h : Own w0 F0 (blk g (clO (.slice q k c) was true wd er n) :: L) w)
 (HF : Calls Tryz.prog 313 #[.pointer (some ⟨g, 0, none⟩), .pointer (some ⟨m, 0, none⟩)] w fun en w' => en = .returned (.tuple #[]) /\ R w')
 (HE : ∀ w', R w' -> Calls Tryz.prog 312 #[.pointer (some ⟨g, 0, none⟩)] w' fun en w'' => en = .returned (.bool bb) /\ w' = w'') :
 Calls Tryz.prog 310 #[.pointer (some ⟨g, 0, none⟩), .pointer (some ⟨m, 0, none⟩)] w fun en w' => en = .returned (.bool bb) /\ R w' := by
 have H0 := hid (zXx hk h)
 obtain ⟨c0, c1, c2, c3, c4, c5, c6, c7, cf⟩ := zZv h
 have HF := hid HF
 have HE := hid HE
 clear h
 go_enter Tryz.func310, Tryz.ntmps310
 go_wp2_with fail
 refine H0.out.mono ?_
 rintro e1 w2 ⟨rfl, rfl⟩
 go_wp2_with fail
 refine HF.out.mono ?_
 rintro e1 w2 ⟨rfl, hR⟩
 have HR := hid hR
 clear hR HF H0 c0 c1 c2 c3 c4 c5 c6 c7 cf
 go_wp2_with fail
 refine (HE.out _ HR.out).mono ?_
 rintro e1 w3 ⟨rfl, rfl⟩
 go_wp2_with fail
 go_ret
 exact ⟨rfl, HR.out⟩
def clA (g : Nat) (p : CP) (s : CS) : Asn :=
 if s.fin = true then ex fun x : Option Addr × Nat => blk g (clO (.slice x.1 0 x.2) s.saw false s.put (erC s) s.n)
 else ex fun x : Nat × Nat => star (blk g (clO (.slice (some ⟨x.1, s.j * 2, none⟩) (p.ti - s.j) (x.2 - s.j)) s.saw s.seen s.put (erC s) s.n)) (tkR x.1 x.2 p)
def clM (g : Nat) (p : CP) : Mach CS where
 asn s := clA g p s
 step s ws lg := stepC p s ws lg
 ok s ws lg := p.Ok /\ CW p ws /\ CSOk p s /\ lg.length < 1000000
theorem clA_fin {s : CS} (hf : s.fin = true) (h : Own w0 F0 (clA g p s :: L) w) : ∃ q c, Own w0 F0 (blk g (clO (.slice q 0 c) s.saw false s.put (erC s) s.n) :: L) w := by
 unfold clA at h
 rw [if_pos hf] at h
 obtain ⟨x, h⟩ := h.exE
 exact ⟨_, _, h⟩
theorem clA_inF {s : CS} (hf : s.fin = true) {q : Option Addr} {c : Nat} (h : Own w0 F0 (blk g (clO (.slice q 0 c) s.saw false s.put (erC s) s.n) :: L) w) : Own w0 F0 (clA g p s :: L) w := by
 unfold clA
 rw [if_pos hf]
 exact Own.exI (A := fun x : Option Addr × Nat => blk g (clO (.slice x.1 0 x.2) s.saw false s.put (erC s) s.n)) (q, c) h
theorem clA_on {seen : Bool} {saw : Int} (h : Own w0 F0 (clA g p ⟨j, seen, saw, false, false, 0, 0⟩ :: L) w) : ∃ b c, Own w0 F0 (clB g b c p j saw seen :: tkR b c p :: L) w := by
 unfold clA at h
 rw [if_neg (by simp)] at h
 obtain ⟨x, h⟩ := h.exE
 exact ⟨x.1, x.2, h.part⟩
theorem clA_inO {seen : Bool} {saw : Int} {b c : Nat} (h : Own w0 F0 (clB g b c p j saw seen :: tkR b c p :: L) w) : Own w0 F0 (clA g p ⟨j, seen, saw, false, false, 0, 0⟩ :: L) w := by
 unfold clA
 rw [if_neg (by simp)]
 exact Own.exI (A := fun x : Nat × Nat => star (blk g (clO (.slice (some ⟨x.1, j * 2, none⟩) (p.ti - j) (x.2 - j)) saw seen 0 0 0)) (tkR x.1 x.2 p)) (b, c) h.join
theorem clNew_any (c : Cf) (hr : c.Rt) (st : Nat) (h0 : st <= 1000) (h : Own w0 F0 L w) :
 Calls Tryz.prog 124 #[cfV c (.slice pp c.ps.length cp) (.slice pl c.ls.length cl), .int .i64 st] w fun e w' =>
  ∃ g, e = .returned (.pointer (some ⟨g, 0, none⟩)) /\ Own w0 F0 (clA g (cpC c st) s0C :: L) w' := by
 refine (clNew_row c hr st h0 h).mono ?_
 rintro e w' ⟨g, rfl, v, hO⟩
 have hp := cpC_ok hr st h0
 obtain ⟨b, cap, cur, rfl, h1, h2, h3, h4, h5, h6⟩ := hO.swap.rowBlk (by have := hp.t1; omega)
 refine ⟨g, rfl, clA_inO (b := b) (c := cap) ?_⟩
 have h7 := h6.blkRow h1 h2 h3 h4 h5
 unfold clB
 rw [Nat.zero_mul, Nat.sub_zero, Nat.sub_zero]
 exact h7.swap
theorem zRi (hp : p.Ok) (hj : j < p.ti) {y : Int} {M : Asn} (h : Own w0 F0 (clB g b c p j y false :: tkR b c p :: M :: L) w) :
 Calls Tryz.prog 311 #[.pointer (some ⟨g, 0, none⟩)] w fun en w' => en = .returned (.tuple #[]) /\ Own w0 F0 (clA g p (nextC p j y) :: M :: L) w' := by
 obtain ⟨h1, h2⟩ := tkR_cap hp.t1 h.swap
 by_cases he : j + 1 = p.ti
 ·have h' : Own w0 F0 (blk g (clO (.slice (some ⟨b, j * 2, none⟩) 1 (c - j)) y false 0 0 0) :: tkR b c p :: M :: L) w := by
   have := h
   unfold clB at this
   rwa [show p.ti - j = 1 by omega] at this
  refine (clNext_end (by omega) (by omega) h').mono ?_
  rintro e w' ⟨rfl, q, c', hO⟩
  refine ⟨rfl, clA_inF (by unfold nextC; exact decide_eq_true he) (q := q) (c := c') ?_⟩
  have e1 : erC (nextC p j y) = 3 := by unfold erC nextC; rw [if_pos ⟨decide_eq_true he, rfl⟩]
  rw [e1]
  exact hO.under fun _ _ h => h.drop
 ·have h' := h
  unfold clB at h'
  refine (clNext_more (by omega) (by omega) (by omega) h').mono ?_
  rintro e w' ⟨rfl, hO⟩
  refine ⟨rfl, ?_⟩
  have e0 : nextC p j y = ⟨j + 1, false, y, false, false, 0, 0⟩ := by unfold nextC; rw [decide_eq_false he]
  rw [e0]
  refine clA_inO (b := b) (c := c) ?_
  unfold clB
  rw [show (j + 1) * 2 = j * 2 + 2 by omega, show p.ti - (j + 1) = p.ti - j - 1 by omega, show c - (j + 1) = c - j - 1 by omega]
  exact hO
theorem zUz (hp : p.Ok) (hj : j < p.ti) {y : Int} (h : Own w0 F0 (clA g p (nextC p j y) :: L) w) :
 Calls Tryz.prog 312 #[.pointer (some ⟨g, 0, none⟩)] w fun en w' => en = .returned (.bool (decide (j + 1 = p.ti))) /\ w = w' := by
 by_cases he : j + 1 = p.ti
 ·obtain ⟨q, c, h⟩ := clA_fin (by unfold nextC; exact decide_eq_true he) h
  rw [decide_eq_true he]
  exact zWb h
 ·have e0 : nextC p j y = ⟨j + 1, false, y, false, false, 0, 0⟩ := by unfold nextC; rw [decide_eq_false he]
  rw [e0] at h
  obtain ⟨b, c, h⟩ := clA_on h
  rw [decide_eq_false he]
  exact zXx (by omega) h
theorem zQu (g m : Nat) (T : TypeId) (p : CP) : zYs w0 F0 (clM g p) 310 (.pointer (some ⟨g, 0, none⟩)) T m := by
 intro L s ws lg w ⟨hp, hw, hs, hl⟩ h
 simp only [clM] at h ⊢
 obtain ⟨j, seen, saw, fin, ok, n, put⟩ := s
 have hlt := hs.lt
 have hopen := hs.open_
 have hbad := hs.bad
 have hI := hs.saw
 simp only at hlt hopen hbad hI
 have hwd := cwd_in hp hw j
 cases fin with
 | true =>
   obtain ⟨q, c, h'⟩ := clA_fin rfl h
   refine (clStep_fin _ h').mono ?_
   rintro e w' ⟨rfl, rfl⟩
   exact ⟨rfl, h⟩
 | false =>
   have hj := hlt rfl
   have ho := hopen rfl
   subst ho
   obtain ⟨rfl, rfl⟩ := hbad rfl
   obtain ⟨b, c, h'⟩ := clA_on h
   have hu : Own w0 F0 (blk g (clO (.slice (some ⟨b, j * 2, none⟩) (p.ti - j) (c - j)) saw seen 0 0 0) :: tkR b c p :: memA T m ws lg :: L) w := h'
   have hk1 : 1 <= p.ti - j := by omega
   cases seen with
   | false =>
     have hIy := hw.wf (p.wd j)
     obtain ⟨y, hy⟩ : ∃ y, ws.getD (p.wd j) 0 = y := ⟨_, rfl⟩
     rw [hy] at hIy
     by_cases hc : stS y = 0
     ·have e : stepC p ⟨j, false, saw, false, false, 0, 0⟩ ws lg = (⟨j, true, y, false, false, 0, 0⟩, ws, lg ++ [⟨1, (p.wd j : Nat), y, 0, false⟩], false) := by
       unfold stepC; rw [if_neg (by simp), if_neg (by simp), if_pos (by rw [hy]; exact hc), hy]
      rw [e]
      simp only []
      have HF : Calls Tryz.prog 314 #[.pointer (some ⟨g, 0, none⟩), .pointer (some ⟨m, 0, none⟩)] w fun en w' => en = .returned (.tuple #[]) /\ Own w0 F0 (clA g p ⟨j, true, y, false, false, 0, 0⟩ :: memA T m ws (lg ++ [⟨1, (p.wd j : Nat), y, 0, false⟩]) :: L) w' := by
       refine clFind_yes hp hj hl hwd y hy hIy hc _ ?_ h'
       intro w2 h2
       exact ⟨rfl, clA_inO h2⟩
      have HE : ∀ w', Own w0 F0 (clA g p ⟨j, true, y, false, false, 0, 0⟩ :: memA T m ws (lg ++ [⟨1, (p.wd j : Nat), y, 0, false⟩]) :: L) w' -> Calls Tryz.prog 312 #[.pointer (some ⟨g, 0, none⟩)] w' fun en w'' => en = .returned (.bool false) /\ w' = w'' := by
       intro w' h2
       obtain ⟨b, c, h2⟩ := clA_on h2
       exact zXx (by omega) h2
      exact zT6 _ _ hk1 hu HF HE
     ·have e : stepC p ⟨j, false, saw, false, false, 0, 0⟩ ws lg = (nextC p j y, ws, lg ++ [⟨1, (p.wd j : Nat), y, 0, false⟩], decide (j + 1 = p.ti)) := by
       unfold stepC; rw [if_neg (by simp), if_neg (by simp), if_neg (by rw [hy]; exact hc), hy]
      rw [e]
      simp only []
      have HF : Calls Tryz.prog 314 #[.pointer (some ⟨g, 0, none⟩), .pointer (some ⟨m, 0, none⟩)] w fun en w' => en = .returned (.tuple #[]) /\ Own w0 F0 (clA g p (nextC p j y) :: memA T m ws (lg ++ [⟨1, (p.wd j : Nat), y, 0, false⟩]) :: L) w' := by
       refine clFind_no hp hj hl hwd y hy hIy hc _ ?_ h'
       intro w2 h2
       refine (zRi hp hj h2).mono ?_
       rintro e w' ⟨he, hO⟩
       exact ⟨he, he, hO⟩
      have HE : ∀ w', Own w0 F0 (clA g p (nextC p j y) :: memA T m ws (lg ++ [⟨1, (p.wd j : Nat), y, 0, false⟩]) :: L) w' -> Calls Tryz.prog 312 #[.pointer (some ⟨g, 0, none⟩)] w' fun en w'' => en = .returned (.bool (decide (j + 1 = p.ti))) /\ w' = w'' := by
       exact fun w' h2 => zUz hp hj h2
      exact zT6 _ _ hk1 hu HF HE
   | true =>
     by_cases hc : ws.getD (p.wd j) 0 = saw
     ·have e : stepC p ⟨j, true, saw, false, false, 0, 0⟩ ws lg = (⟨j, true, saw, true, true, p.tic j, tnW saw 1⟩, ws.set (p.wd j) (tnW saw 1), lg ++ [⟨3, (p.wd j : Nat), saw, tnW saw 1, true⟩], true) := by
       unfold stepC; rw [if_neg (by simp), if_pos rfl, if_pos hc]
      rw [e]
      simp only []
      have HF : Calls Tryz.prog 313 #[.pointer (some ⟨g, 0, none⟩), .pointer (some ⟨m, 0, none⟩)] w fun en w' => en = .returned (.tuple #[]) /\ Own w0 F0 (clA g p ⟨j, true, saw, true, true, p.tic j, tnW saw 1⟩ :: memA T m (ws.set (p.wd j) (tnW saw 1)) (lg ++ [⟨3, (p.wd j : Nat), saw, tnW saw 1, true⟩]) :: L) w' := by
       refine (clKeep_yes hp hj hl hwd hI hc h').mono ?_
       rintro e1 w2 ⟨rfl, h2⟩
       refine ⟨rfl, clA_inF rfl (q := none) (c := 0) ?_⟩
       have e1 : erC ⟨j, true, saw, true, true, p.tic j, tnW saw 1⟩ = 0 := by unfold erC; rw [if_neg (by simp)]
       rw [e1]
       exact h2.under fun _ _ h => h.under fun _ _ h => h.drop
      have HE : ∀ w', Own w0 F0 (clA g p ⟨j, true, saw, true, true, p.tic j, tnW saw 1⟩ :: memA T m (ws.set (p.wd j) (tnW saw 1)) (lg ++ [⟨3, (p.wd j : Nat), saw, tnW saw 1, true⟩]) :: L) w' -> Calls Tryz.prog 312 #[.pointer (some ⟨g, 0, none⟩)] w' fun en w'' => en = .returned (.bool true) /\ w' = w'' := by
       intro w' h2
       obtain ⟨q, c, h2⟩ := clA_fin rfl h2
       exact zWb h2
      exact zT5 _ _ hk1 hu HF HE
     ·have e : stepC p ⟨j, true, saw, false, false, 0, 0⟩ ws lg = (nextC p j saw, ws, lg ++ [⟨3, (p.wd j : Nat), saw, tnW saw 1, false⟩], decide (j + 1 = p.ti)) := by
       unfold stepC; rw [if_neg (by simp), if_pos rfl, if_neg hc]
      rw [e]
      simp only []
      have HF : Calls Tryz.prog 313 #[.pointer (some ⟨g, 0, none⟩), .pointer (some ⟨m, 0, none⟩)] w fun en w' => en = .returned (.tuple #[]) /\ Own w0 F0 (clA g p (nextC p j saw) :: memA T m ws (lg ++ [⟨3, (p.wd j : Nat), saw, tnW saw 1, false⟩]) :: L) w' := by
       refine clKeep_no hp hj hl hwd hI hc _ ?_ h'
       intro w2 h2
       refine (zRi hp hj h2).mono ?_
       rintro e w' ⟨he, hO⟩
       exact ⟨he, he, hO⟩
      have HE : ∀ w', Own w0 F0 (clA g p (nextC p j saw) :: memA T m ws (lg ++ [⟨3, (p.wd j : Nat), saw, tnW saw 1, false⟩]) :: L) w' -> Calls Tryz.prog 312 #[.pointer (some ⟨g, 0, none⟩)] w' fun en w'' => en = .returned (.bool (decide (j + 1 = p.ti))) /\ w' = w'' := by
       exact fun w' h2 => zUz hp hj h2
      exact zT5 _ _ hk1 hu HF HE
theorem clA_blk {s : CS} (h : Own w0 F0 (clA g p s :: L) w) : ∃ vl fr, Own w0 F0 (blk g (clO vl s.saw fr s.put (erC s) s.n) :: L) w := by
 unfold clA at h
 split at h
 ·obtain ⟨x, h⟩ := h.exE
  exact ⟨_, _, h⟩
 ·obtain ⟨x, h⟩ := h.exE
  exact ⟨_, _, h.part.under fun _ _ h => h.drop⟩
theorem zUd {s : CS} (h : Own w0 F0 (clA g p s :: L) w) :
 Calls Tryz.prog 163 #[.pointer (some ⟨g, 0, none⟩)] w fun e w' => e = .returned (ansV (erC s) (s.n : Int) false 0) /\ Below w.heap.size w w' := by
 obtain ⟨vl, fr, h⟩ := clA_blk h
 obtain ⟨c0, c1, c2, c3, c4, c5, c6, c7, cf⟩ := zZv h
 have hg : g < w.heap.size := h.inHeap
 generalize erC s = er at *
 generalize (s.n : Int) = nn at *
 have A3 : ∀ o, (w.alloc o).cell? ⟨g, 4, none⟩ = some (.int .i64 er) := fun o => (World.cell?_alloc_lt _ _ _ hg).trans c4
 have A4 : ∀ o, (w.alloc o).cell? ⟨g, 5, none⟩ = some (.int .i64 nn) := fun o => (World.cell?_alloc_lt _ _ _ hg).trans c5
 have A5 : ∀ o, (w.alloc o).cell? ⟨g, 6, none⟩ = some (.bool false) := fun o => (World.cell?_alloc_lt _ _ _ hg).trans c6
 have A6 : ∀ o, (w.alloc o).cell? ⟨g, 7, none⟩ = some (.int .i64 0) := fun o => (World.cell?_alloc_lt _ _ _ hg).trans c7
 have hB := hid (fun y z u v => ((Own.start w).alloc (.cells #[y, z, u, v] 50)).toBelow)
 unfold ansV
 clear h
 go_enter Tryz.func163, Tryz.ntmps163
 go_wp2_with fail
 (try simp only [Exit.inBlock, Exit.then])
 refine bodyPost_ret (by simp [results, Tryz.results163, go_sem, *]; try rfl) rfl ?_
 exact ⟨rfl, hB.out _ _ _ _⟩
theorem clWord_any {s : CS} (h : Own w0 F0 (clA g p s :: L) w) :
 Calls Tryz.prog 209 #[.pointer (some ⟨g, 0, none⟩)] w fun e w' => e = .returned (.int .i64 s.put) /\ Below w.heap.size w w' := by
 obtain ⟨vl, fr, h⟩ := clA_blk h
 obtain ⟨c0, c1, c2, c3, c4, c5, c6, c7, cf⟩ := zZv h
 clear h
 go_enter Tryz.func209, Tryz.ntmps209
 go_wp2_with fail
 go_ret
 exact ⟨rfl, Below.refl _ _⟩
end
end
end Go.Proofs.YtdglnpfnjinbkaaGreat
