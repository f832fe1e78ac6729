/- Texts of elder layers, one behind the other: AddRef, AddPoked, AddRef2, AdmitRef, AdmitRef2, AdmitRef3, AdmitRef4, RelLaw, CallHead, CallLaws, CallArg, CallBackDo. -/
import Derived.Test.YtdglnpfnjinbkaaGreatC47
import Derived.Deep.RegionWith
import Derived.BigQuiet
import Derived.Deep.QuietTactic
import Derived.StillTailTactics
import Derived.Deep.RegionHeld3
import Derived.Lib.QuietBelow
namespace Go.Proofs.YtdglnpfnjinbkaaGreat
open Go.ChangeShapes Go.WideShapes Go.ChangeAt Go.RowKit Go.Shelf
open Lib (hid)
set_option linter.unusedVariables false
set_option linter.unusedSimpArgs false
set_option maxRecDepth 100000
set_option maxHeartbeats 4000000
section
variable {w0 w w' : World} {F0 : Nat -> Prop} {L : List Asn} {T : TypeId} {m : Nat} {ws : List Int} {lg : List Acc}
def rO (b S g d x a l i wv v : Int) : Obj := .cells #[.int .i64 b, .int .i64 S, .int .i64 g, .int .i64 d, .int .i64 x, .int .i64 a, .int .i64 l, .int .i64 i, .int .i64 wv, .int .i64 v] 179 (0, 0)
section
variable {k : Nat} {b S g d x a l i wv v : Int} (h : Own w0 F0 (blk k (rO b S g d x a l i wv v) :: L) w)
include h
end
end
section
end
section
variable {w0 w w' : World} {F0 : Nat -> Prop} {L : List Asn} {T : TypeId} {m : Nat} {ws : List Int} {lg : List Acc}
end
section
variable {w0 w w' W : World} {F0 : Nat -> Prop} {L : List Asn} {T : TypeId} {m : Nat} {ws : List Int} {lg : List Acc}
section
variable {k kc i : Nat} {vp vl vq : Value} {p : DP} {vP vA : Option Addr} {lv er an nn : Int}
end
end
section
variable {w0 w w' W : World} {F0 : Nat -> Prop} {L : List Asn} {T : TypeId} {m : Nat} {ws : List Int} {lg : List Acc}
section
variable {k kc i : Nat} {vp vl vq : Value} {p : DP} {vP vA : Option Addr} {lv er an nn : Int}
end
end
section
variable {w0 w w' W : World} {F0 : Nat -> Prop} {L : List Asn} {T : TypeId} {m : Nat} {ws : List Int} {lg : List Acc}
variable {k : Nat} {p : DP} {s : DS} {M : Asn}
end
section
section
variable {w0 w w' : World} {F0 : Nat -> Prop} {L : List Asn} {T : TypeId} {m : Nat} {ws : List Int} {lg : List Acc} {pp pl : Option Addr} {np cp nl cl : Nat}
end
section
variable {w w' W : World} {L : List Asn} {T : TypeId}
end
end
section
variable {w0 w w' W : World} {F0 : Nat -> Prop} {L : List Asn} {T : TypeId} {m : Nat} {ws ws0 : List Int} {lg l0 : List Acc} {p : DP} {s : DS} {B : Int} {t : Nat}
def ak0 (c : Cf) : Ak := ⟨c, 0, 0, 0, [], [], []⟩
theorem ak0_W (c : Cf) : akW (ak0 c) = zZu c c.ps.length := by
 have e1 : akRB (ak0 c) = 0 := by show min 0 _ = 0; omega
 have e2 : akRA (ak0 c) = 0 := by show min 0 _ = 0; omega
 unfold akW; rw [e2, akA, e1, akB]; rfl
theorem ak0_wf (c : Cf) : (ak0 c).Wf := by
 constructor <;> simp [ak0]
section
variable {a1 a2 : Option Addr} {z1 z2 : Nat}
end
end
section
variable {w0 w w' W : World} {F0 : Nat -> Prop} {L : List Asn} {pp pl pv : Option Addr} {cp cl cv n : Nat}
theorem zQq (c : Cf) (hw : Wide c) (h : ¬ (c.ps.length <= 100 /\ c.ls.length <= 100 /\ n <= 40)) (w : World) :
 Calls Tryz.prog 10 #[cfV c (.slice pp c.ps.length cp) (.slice pl c.ls.length cl), .slice pv n cv] w fun e w' => e = .returned (.bool true) /\ Below w.heap.size w w' := by
 have H1 := hid ((Own.start w).new (cfO c (.slice pp c.ps.length cp) (.slice pl c.ls.length cl)))
 obtain ⟨d0, d1, d2, d3, d4, d5, d6, d7⟩ := zZa H1.out
 by_cases hg : c.ps.length <= 100 /\ c.ls.length <= 100
 ·have hG := fun w => hid (zTf (pp := pp) (pl := pl) (np := c.ps.length) (nl := c.ls.length) (cp := cp) (cl := cl) c hg.1 hg.2 w)
  have g1 : (40 : Int) < (n : Int) := by omega
  have g2 : decide ((40 : Int) < (n : Int)) = true := decide_eq_true g1
  clear hg h hw
  go_enter Tryz.func10, Tryz.ntmps10
  go_wp2_with fail
  refine (hG _).out.mono ?_
  rintro e w2 ⟨rfl, hB⟩
  have HB := hid (H1.out.below hB).toBelow
  clear hB hG H1 d0 d1 d2 d3 d4 d5 d6 d7
  go_wp2_with fail
  go_ret
  exact ⟨rfl, HB.out⟩
 ·have hG := fun w => hid (Great_yes (pp := pp) (pl := pl) (np := c.ps.length) (nl := c.ls.length) (cp := cp) (cl := cl) c hw.pn hw.ln (by omega) w)
  clear hg h hw
  go_enter Tryz.func10, Tryz.ntmps10
  go_wp2_with fail
  refine (hG _).out.mono ?_
  rintro e w2 ⟨rfl, hB⟩
  have HB := hid (H1.out.below hB).toBelow
  clear hB hG H1 d0 d1 d2 d3 d4 d5 d6 d7
  go_wp2_with fail
  go_ret
  exact ⟨rfl, HB.out⟩
theorem zUy (c : Cf) (hw : Wide c) (h1 : c.ps.length <= 100) (h2 : c.ls.length <= 100) (h3 : n <= 40) (w : World) :
 Calls Tryz.prog 10 #[cfV c (.slice pp c.ps.length cp) (.slice pl c.ls.length cl), .slice pv n cv] w fun e w' => e = .returned (.bool false) /\ Below w.heap.size w w' := by
 have H1 := hid ((Own.start w).new (cfO c (.slice pp c.ps.length cp) (.slice pl c.ls.length cl)))
 obtain ⟨d0, d1, d2, d3, d4, d5, d6, d7⟩ := zZa H1.out
 have hG := fun w => hid (zTf (pp := pp) (pl := pl) (np := c.ps.length) (nl := c.ls.length) (cp := cp) (cl := cl) c h1 h2 w)
 have g1 : ¬ (40 : Int) < (n : Int) := by omega
 have g2 : decide ((40 : Int) < (n : Int)) = false := decide_eq_false g1
 clear h1 h2 h3 hw
 go_enter Tryz.func10, Tryz.ntmps10
 go_wp2_with fail
 refine (hG _).out.mono ?_
 rintro e w2 ⟨rfl, hB⟩
 have HB := hid (H1.out.below hB).toBelow
 clear hB hG H1 d0 d1 d2 d3 d4 d5 d6 d7
 go_wp2_with fail
 go_ret
 exact ⟨rfl, HB.out⟩
theorem zX5 {kd nd n : Int} (h : -100 <= kd /\ kd <= 100 /\ -100 <= nd /\ nd <= 100 /\ -100 <= n /\ n <= 100) : (⟨kd, nd, n⟩ : Cl).Wf :=
 ⟨by show I64 kd; unfold I64; omega, by show I64 nd; unfold I64; omega, by show I64 n; unfold I64; omega⟩
def x15 : Cl := ⟨1, 2, 4⟩
theorem x15_wf : x15.Wf := zX5 (by decide)
theorem rs15 : Rs baseC baseW := by
 have h := Rs.fresh (x := ak0 baseC) zT8 (ak0_wf baseC) rfl
 rw [ak0_W] at h
 rw [<- zRm]
 exact h
theorem one15 : ansX (runX baseC 200 (newX baseC 0 x15) baseW []).1 = ⟨0, 32, false, 0⟩ := by
 have e : (ansX (runX baseC 200 (newX baseC 0 x15) baseW []).1).er = 0 /\ (ansX (runX baseC 200 (newX baseC 0 x15) baseW []).1).n = 32 /\ (ansX (runX baseC 200 (newX baseC 0 x15) baseW []).1).ex = false /\ (ansX (runX baseC 200 (newX baseC 0 x15) baseW []).1).nd = 0 := by
  refine ⟨?_, ?_, ?_, ?_⟩ <;> kernel_rfl
 obtain ⟨a, b, cc, d⟩ := e
 generalize ansX (runX baseC 200 (newX baseC 0 x15) baseW []).1 = A at *
 obtain ⟨p, q, r, s⟩ := A
 simp only at a b cc d
 subst a b cc d
 rfl
set_option maxHeartbeats 8000000 in
theorem zZt (h : Own w0 F0 L w) : Calls Tryz.prog 9 #[] w fun e w' => e = .returned (.bool true) /\ Own w0 F0 L w' := by
 have HBase := hid (Base_any h)
 clear h
 go_enter Tryz.func9, Tryz.ntmps9
 go_wp2_with fail
 refine HBase.out.mono ?_
 rintro e w1 ⟨g, k, rfl, hO⟩
 have hO : Own w0 F0 (headL w1.heap.size g k L) (w1.alloc (cfO baseC (rowAt g 4) (rowAt k 4))) := by
  have h1 := hO.under fun _ _ h => h.blkRow (n := 4) (cap := 4) (size := 1) (xs := intC [20, 10, 8, 5]) (by decide) (by decide) rfl rfl rfl
  have h2 := h1.blkRow (n := 4) (cap := 4) (size := 1) (xs := intC [-1, 0, 1, 0]) (by decide) (by decide) rfl rfl rfl
  exact h2.new (cfO baseC (rowAt g 4) (rowAt k 4))
 obtain ⟨b, hb⟩ : ∃ b, b = w1.heap.size := ⟨_, rfl⟩
 rw [<- hb] at hO
 have HB := hid hb
 clear HBase hb
 go_wp2_with fail
 rw [<- HB.out]
 clear HB
 generalize hW1 : w1.alloc (cfO baseC (rowAt g 4) (rowAt k 4)) = W1 at *
 have hv := (head_rows hO).1
 have hl := (head_rows hO).2
 obtain ⟨d0, d1, d2, d3, d4, d5, d6, d7⟩ := zZa hO
 have hbW : b < W1.heap.size := hO.inHeap
 have HC := hid (show ∀ w', Below W1.heap.size W1 w' -> w'.cell? ⟨b, 0, none⟩ = some (.int .i64 baseC.th) /\ w'.cell? ⟨b, 1, none⟩ = some (.int .i64 baseC.st) /\ w'.cell? ⟨b, 2, none⟩ = some (.int .i64 baseC.ga) /\ w'.cell? ⟨b, 3, none⟩ = some (.int .i64 baseC.le) /\ w'.cell? ⟨b, 4, none⟩ = some (.int .i64 baseC.re) /\ w'.cell? ⟨b, 5, none⟩ = some (.int .i64 baseC.ti) /\ w'.cell? ⟨b, 6, none⟩ = some (rowAt g 4) /\ w'.cell? ⟨b, 7, none⟩ = some (rowAt k 4) from
  fun w' hs => ⟨(Below.cell hs hbW).trans d0, (Below.cell hs hbW).trans d1, (Below.cell hs hbW).trans d2, (Below.cell hs hbW).trans d3, (Below.cell hs hbW).trans d4, (Below.cell hs hbW).trans d5, (Below.cell hs hbW).trans d6, (Below.cell hs hbW).trans d7⟩)
 have HEnd := hid (show ∀ X w', Own W1 NoF X w' -> Own w0 F0 L w' from fun X w' h => (hO.below h.toBelow).drop.drop.drop)
 have Hv := hid (show zZc W1 .i64 (rowAt g 4) baseC.ps from hv)
 have Hl := hid (show zZc W1 .i64 (rowAt k 4) baseC.ls from hl)
 have HK := fun w' (hs : Stp W1 w') (x : Cl) (hx : x.Wf) => hid (zXz (w := w') zT8 (Hv.out.stp hs) (Hl.out.stp hs) x hx)
 have HA := hid (zXs (w0 := W1) (F0 := NoF) (L := []) (w := W1) (pp := some ⟨g, 0, none⟩) (cp := 4) (vl := rowAt k 4) baseC zT8 (fun w' h' => Hl.out.stp h'.toBelow) (Own.start W1))
 rw [show baseC.ps.length = 4 from rfl, zRm] at HA
 clear hO hv hl hbW d0 d1 d2 d3 d4 d5 d6 d7
 obtain ⟨d0, d1, d2, d3, d4, d5, d6, d7⟩ := HC.out _ (Own.start W1).toBelow
 go_wp2_with fail
 refine HA.out.mono ?_
 rintro e w2 ⟨mf, rfl, hO⟩
 clear HA d0 d1 d2 d3 d4 d5 d6 d7
 obtain ⟨vw, vl', hM⟩ := hO.mem
 obtain ⟨pw, cw, rfl⟩ := zZe hM.swap
 have c0 : w2.cell? ⟨mf, 0, none⟩ = some (.slice pw baseW.length cw) := hM.cell (i := 0) rfl
 have HLd := hid (zWn (ws := baseW) (by decide) (by decide) hM.swap)
 clear hO hM
 go_wp2_with fail
 refine HLd.out.mono ?_
 rintro e w3 ⟨m, rfl, hO⟩
 have hO : Own W1 NoF [memA 101 m baseW []] w3 := hO.under fun _ _ h => h.drop.drop.drop
 clear HLd c0
 obtain ⟨d0, d1, d2, d3, d4, d5, d6, d7⟩ := HC.out _ hO.toBelow
 have hC1 := HK _ hO.toBelow x15 x15_wf
 rw [show chk baseC x15 = 0 from by decide +kernel] at hC1
 have HO := hid hO
 unfold clV x15 at hC1
 clear hO
 go_wp2_with fail
 refine hC1.out.mono ?_
 rintro e w4 ⟨rfl, hB⟩
 have hO := HO.out.below hB
 clear hC1 HO hB d0 d1 d2 d3 d4 d5 d6 d7
 obtain ⟨d0, d1, d2, d3, d4, d5, d6, d7⟩ := HC.out _ hO.toBelow
 have HNw := hid (cNew_any zT8 Hv.out Hl.out x15 x15_wf (by decide +kernel) 0 (by decide) hO)
 unfold clV at HNw
 rw [show x15.kd = 1 from rfl, show x15.nd = 2 from rfl, show x15.n = 4 from rfl] at HNw
 clear hO
 go_wp2_with fail
 refine HNw.out.mono ?_
 rintro e w5 ⟨gx, rfl, hO⟩
 clear HNw d0 d1 d2 d3 d4 d5 d6 d7
 have HPl := hid (cPlay_any zT8 Hv.out Hl.out rs15 (t := 0) (by decide) (x := x15) (by decide +kernel) (by decide) 100 (by decide) hO)
 rw [show ((200 + 100 : Nat) : Int) = 300 from rfl] at HPl
 clear hO
 go_wp2_with fail
 refine HPl.out.mono ?_
 rintro e w6 ⟨rfl, hO⟩
 have hkd := zV3 (c := baseC) 200 (newX baseC 0 x15) baseW []
 have hno := runX_no (c := baseC) 200 (newX baseC 0 x15) baseW [] (zUq baseC 0 x15)
 have HAn := hid (xAns_any _ hno (fun u s e hf => run_pk0 u s e hf) hO)
 rw [hkd.2, one15] at HAn
 unfold anV ansV at HAn
 have Hm := hid (xG_meth _ (zUq baseC 0 x15) gx)
 have He := hid (xG_enters _ (zUq baseC 0 x15))
 have q1 := ans_same 32 false
 have HO := hid hO
 clear HPl hkd hno hO
 generalize cntX baseC 200 (newX baseC 0 x15) baseW [] = nn at *
 generalize xT (newX baseC 0 x15) = ty at *
 generalize xG (newX baseC 0 x15) = fg at *
 go_wp2_with fail
 rw [Hm.out]
 simp only [Result.andThen, He.out]
 refine HAn.out.mono ?_
 rintro e w7 ⟨rfl, hB⟩
 have hO := HO.out.below hB
 clear HAn HO hB Hm He
 obtain ⟨d0, d1, d2, d3, d4, d5, d6, d7⟩ := HC.out _ hO.toBelow
 have hC1 := HK _ hO.toBelow (⟨1, 1, 4⟩ : Cl) (zX5 (by decide))
 rw [show chk baseC (⟨1, 1, 4⟩ : Cl) = 2 from by decide +kernel] at hC1
 unfold clV at hC1
 have HO := hid hO
 clear hO
 go_wp2_with fail
 refine hC1.out.mono ?_
 rintro e w8 ⟨rfl, hB⟩
 have hO := HO.out.below hB
 clear hC1 HO hB d0 d1 d2 d3 d4 d5 d6 d7
 obtain ⟨d0, d1, d2, d3, d4, d5, d6, d7⟩ := HC.out _ hO.toBelow
 have hC1 := HK _ hO.toBelow (⟨1, 2, 0⟩ : Cl) (zX5 (by decide))
 rw [show chk baseC (⟨1, 2, 0⟩ : Cl) = 1 from by decide +kernel] at hC1
 unfold clV at hC1
 have HO := hid hO
 clear hO
 go_wp2_with fail
 refine hC1.out.mono ?_
 rintro e w9 ⟨rfl, hB⟩
 have hO := HO.out.below hB
 clear hC1 HO hB d0 d1 d2 d3 d4 d5 d6 d7
 obtain ⟨d0, d1, d2, d3, d4, d5, d6, d7⟩ := HC.out _ hO.toBelow
 have hC1 := HK _ hO.toBelow (⟨2, 0, (-1)⟩ : Cl) (zX5 (by decide))
 rw [show chk baseC (⟨2, 0, (-1)⟩ : Cl) = 5 from by decide +kernel] at hC1
 unfold clV at hC1
 have HO := hid hO
 clear hO
 go_wp2_with fail
 refine hC1.out.mono ?_
 rintro e w10 ⟨rfl, hB⟩
 have hO := HO.out.below hB
 clear hC1 HO hB d0 d1 d2 d3 d4 d5 d6 d7
 obtain ⟨d0, d1, d2, d3, d4, d5, d6, d7⟩ := HC.out _ hO.toBelow
 have hC1 := HK _ hO.toBelow (⟨3, 9, 1⟩ : Cl) (zX5 (by decide))
 rw [show chk baseC (⟨3, 9, 1⟩ : Cl) = 2 from by decide +kernel] at hC1
 unfold clV at hC1
 have HO := hid hO
 clear hO
 go_wp2_with fail
 refine hC1.out.mono ?_
 rintro e w11 ⟨rfl, hB⟩
 have hO := HO.out.below hB
 clear hC1 HO hB d0 d1 d2 d3 d4 d5 d6 d7
 obtain ⟨d0, d1, d2, d3, d4, d5, d6, d7⟩ := HC.out _ hO.toBelow
 have hC1 := HK _ hO.toBelow (⟨0, 0, 0⟩ : Cl) (zX5 (by decide))
 rw [show chk baseC (⟨0, 0, 0⟩ : Cl) = 1 from by decide +kernel] at hC1
 unfold clV at hC1
 have HO := hid hO
 clear hO
 go_wp2_with fail
 refine hC1.out.mono ?_
 rintro e w12 ⟨rfl, hB⟩
 have hO := HO.out.below hB
 clear hC1 HO hB d0 d1 d2 d3 d4 d5 d6 d7
 obtain ⟨d0, d1, d2, d3, d4, d5, d6, d7⟩ := HC.out _ hO.toBelow
 have hC1 := HK _ hO.toBelow (⟨6, 1, 0⟩ : Cl) (zX5 (by decide))
 rw [show chk baseC (⟨6, 1, 0⟩ : Cl) = 0 from by decide +kernel] at hC1
 unfold clV at hC1
 have HO := hid hO
 clear hO
 go_wp2_with fail
 refine hC1.out.mono ?_
 rintro e w13 ⟨rfl, hB⟩
 have hO := HO.out.below hB
 clear hC1 HO hB d0 d1 d2 d3 d4 d5 d6 d7
 have HZ := hid (HEnd.out _ _ hO)
 clear hO
 go_wp2_with fail
 go_ret
 exact ⟨rfl, HZ.out⟩
end
section
variable {w0 w w' W : World} {F0 : Nat -> Prop} {L : List Asn} {c : Cf}
theorem anSetC {er n nd : Int} {ex : Bool} : (((((#[.int .i64 0, .int .i64 0, .bool false, .int .i64 0] : Array Value).setIfInBounds 0 (.int .i64 er)).setIfInBounds 1 (.int .i64 n)).setIfInBounds 2 (.bool ex)).setIfInBounds 3 (.int .i64 nd)) = #[.int .i64 er, .int .i64 n, .bool ex, .int .i64 nd] := by kernel_rfl
theorem anSet {B : Nat} {er n nd : Int} {ex : Bool} (h : Own w0 F0 (blk B (.cells #[.int .i64 0, .int .i64 0, .bool false, .int .i64 0] 50) :: L) w) :
 Own w0 F0 (blk B (.cells #[.int .i64 er, .int .i64 n, .bool ex, .int .i64 nd] 50) :: L) ((((w.setCell ⟨B, 0, none⟩ (.int .i64 er)).setCell ⟨B, 1, none⟩ (.int .i64 n)).setCell ⟨B, 2, none⟩ (.bool ex)).setCell ⟨B, 3, none⟩ (.int .i64 nd)) := by
 have h1 := (((h.set 0 (.int .i64 er)).set 1 (.int .i64 n)).set 2 (.bool ex)).set 3 (.int .i64 nd)
 rw [anSetC] at h1
 exact h1
def gaS (c : Cf) (k : Nat) : Int := sK (fun _ => c.ga - 1) k
theorem gaS_succ (c : Cf) (k : Nat) : gaS c (k + 1) = gaS c k + (c.ga - 1) := rfl
theorem gaS_bd (hr : c.Rt) (k : Nat) (hk : k <= 8) : 0 <= gaS c k /\ gaS c k <= 8388608 := by
 have hg := hr.ga
 unfold Bd at hg
 have h0 := sK_pos (f := fun _ => c.ga - 1) k (fun j _ => by (try simp only); omega)
 have h1 := sK_le (f := fun _ => c.ga - 1) (g := fun _ => 1048576) k (fun j _ => by (try simp only); omega)
 rw [zY4 (1048576)] at h1
 unfold gaS
 omega
theorem chk_read {k : Int} (hk : k = 5 ∨ k = 6) {u : Nat} (hu : u < c.ps.length) : chk c ⟨k, u, 0⟩ = 0 := by
 unfold chk
 simp only
 rw [if_neg (by omega), if_neg (by omega), if_neg (by omega), if_pos hk, if_pos ⟨by omega, by omega⟩]
theorem wf_read {k : Int} (hk : k = 5 ∨ k = 6) {u : Nat} (hu : u < 100) : (⟨k, u, 0⟩ : Cl).Wf := by
 refine ⟨?_, ?_, ?_⟩ <;> simp only [I64] <;> omega
theorem done_usage {ws : List Int} (hr : c.Rt) (h : Rs c ws) {u : Nat} (hu : u < c.ps.length) (lg : List Acc) :
 (oneC c 0 ⟨5, u, 0⟩ ws lg).1 = ⟨0, usedU c ws u, true, 0⟩ /\ (oneC c 0 ⟨5, u, 0⟩ ws lg).2.1 = ws /\ (oneC c 0 ⟨5, u, 0⟩ ws lg).2.2.length <= lg.length + 200 := by
 have F := Rs.one hr h (t := 0) (by omega) ⟨5, u, 0⟩ lg
 have h1 := F.usage (chk_read (Or.inl rfl) hu) rfl
 simp only [Int.toNat_natCast] at h1
 exact ⟨h1, F.read (Or.inl rfl), zX8 _ _ _ _ _⟩
theorem done_peek {ws : List Int} (hr : c.Rt) (h : Rs c ws) {u : Nat} (hu : u < c.ps.length) (lg : List Acc) :
 (oneC c 0 ⟨6, u, 0⟩ ws lg).1 = ⟨0, ws.getD (ctN c u) 0, false, 0⟩ /\ (oneC c 0 ⟨6, u, 0⟩ ws lg).2.1 = ws /\ (oneC c 0 ⟨6, u, 0⟩ ws lg).2.2.length <= lg.length + 200 := by
 have F := Rs.one hr h (t := 0) (by omega) ⟨6, u, 0⟩ lg
 have h1 := F.peek (chk_read (Or.inr rfl) hu) rfl
 simp only [Int.toNat_natCast] at h1
 exact ⟨h1, F.read (Or.inr rfl), zX8 _ _ _ _ _⟩
theorem peek_near {ws : List Int} (hr : c.Rt) (h : Rs c ws) {u : Nat} (hu : u < c.ps.length) :
 ws.getD (ctN c u) 0 - usedU c ws u <= gaS c c.st.toNat /\ usedU c ws u - ws.getD (ctN c u) 0 <= gaS c c.st.toNat := ⟨(h.calm.peek hr u hu).1, (h.calm.peek hr u hu).2.1⟩
theorem zR6 {pp pl : Option Addr} {cp cl : Nat} {ws : List Int} (hr : c.Rt) (h : Rs c ws) (w : World) : Calls Tryz.prog 26 #[cfV c (.slice pp c.ps.length cp) (.slice pl c.ls.length cl)] w fun e w' => e = .returned (.int .i64 ws.length) /\ Below w.heap.size w w' := by
 have hst := zZy hr
 have hti := zYi hr
 have h1 := rSize_q (pp := pp) (np := c.ps.length) (cp := cp) (pl := pl) (nl := c.ls.length) (cl := cl) c ⟨by omega, by omega⟩ hr.n1 (by omega) (by omega) w
 rw [(zR7 hr).1, <- h.calm.w.len] at h1
 exact h1
end
section
theorem array3 {α : Type} {cs : Array α} (h : cs.size = 3) : ∃ a b c, cs = #[a, b, c] := by
 obtain ⟨l⟩ := cs
 match l, h with
 | [a, b, c], _ => exact ⟨a, b, c, rfl⟩
theorem cl_at {H : Type} {enc : TypeId × Value -> H} {W : World} {base : Nat} {v : Value} {d : DataW H} {ps : List MemPlace}
 (hval : Value.okWide Tryz.prog W .any base 40 v) (h : DataW.Trod enc Tryz.prog W 0 (fun _ => true) true 40 v d ps) :
 ∃ x : Cl, v = clV x /\ x.Wf := by
 have hS := Tryz.underlying40
 have k3 : Tryz.prog.cellsOf 3 = 1 := by kernel_rfl
 have k24 : Tryz.prog.cellsOf 40 = 3 := by kernel_rfl
 obtain ⟨cs, rfl, hsz⟩ := okWide_struct hS hval
 obtain ⟨c0, c1, c2, rfl⟩ := array3 (hsz.trans k24)
 obtain ⟨fuel, hf⟩ := h
 obtain ⟨xs, n, _, hx, _, hlen, hfld⟩ := DataW.trod_struct hS hf
 have f0 : DataW.trod enc Tryz.prog W 0 (fun _ => true) true n 3 [c0] = xs[0]? := by have := hfld 0 _ rfl; simpa [k3, Value.cells] using this
 have f1 : DataW.trod enc Tryz.prog W 0 (fun _ => true) true n 3 [c1] = xs[1]? := by have := hfld 1 _ rfl; simpa [k3, Value.cells] using this
 have f2 : DataW.trod enc Tryz.prog W 0 (fun _ => true) true n 3 [c2] = xs[2]? := by have := hfld 2 _ rfl; simpa [k3, Value.cells] using this
 match xs, hlen with
 | [y0, y1, y2], _ =>
   obtain ⟨a0, e0, _, w0⟩ := DataW.trod_int Tryz.underlying3 f0
   obtain ⟨a1, e1, _, w1⟩ := DataW.trod_int Tryz.underlying3 f1
   obtain ⟨a2, e2, _, w2⟩ := DataW.trod_int Tryz.underlying3 f2
   simp at e0 e1 e2
   subst e0 e1 e2
   exact ⟨⟨a0, a1, a2⟩, rfl, ⟨zYq w0, zYq w1, zYq w2⟩⟩
def clOf (p : Pk) : Cl := ⟨p.at_, p.w, p.x⟩
theorem zQv {l : List Pk} (h : ∀ p ∈ l, I64 p.at_ /\ I64 p.w /\ I64 p.x) {i : Nat} (hi : i < l.length) : (clOf (l.getD i default)).Wf := by
 have : l.getD i default ∈ l := by
  rw [List.getD_eq_getElem?_getD, List.getElem?_eq_getElem hi]
  exact List.getElem_mem hi
 obtain ⟨a, b, c⟩ := h _ this
 exact ⟨a, b, c⟩
theorem cls_at {W : World} {v : Value} {l : List Pk} (h : PksAt W v l) {i : Nat} (hi : i < l.length) : ∃ b o cap, v = .slice (some ⟨b, o, none⟩) l.length cap /\ b < W.heap.size /\
 W.cell? ⟨b, o + i * 3, none⟩ = some (.int .i64 (clOf (l.getD i default)).kd) /\ W.cell? ⟨b, o + i * 3 + 1, none⟩ = some (.int .i64 (clOf (l.getD i default)).nd) /\ W.cell? ⟨b, o + i * 3 + 2, none⟩ = some (.int .i64 (clOf (l.getD i default)).n) := by
 obtain ⟨p, cap, rfl⟩ := h.slice
 obtain ⟨b, o, rfl, hb, hc⟩ := RowAt.at (show RowAt W (.slice p l.length cap) l.length (pkC l) from h) (by rw [pkC_len]; omega) (by omega)
 have e := fun j hj => pkC_get l i j hi hj
 exact ⟨b, o, cap, rfl, hb, hc (i * 3 + 0) _ (e 0 (by omega)), hc (i * 3 + 1) _ (e 1 (by omega)), hc (i * 3 + 2) _ (e 2 (by omega))⟩
end
section
variable {c : Cf} {ws w1 w2 : List Int} {B : Int}
theorem back_adm (hr : c.Rt) (h : Rs c ws) {v : Nat} (hv : v < c.ps.length) {k : Int} (k0 : 1 <= k) (k1 : k <= 1048576) {t : Nat} (ht : t <= 1000) (lg : List Acc) :
 (lfB c.ps v = false /\ (oneC c t ⟨1, v, k⟩ ws lg).1.er = 2) ∨
 (lfB c.ps v = true /\ (oneC c t ⟨1, v, k⟩ ws lg).1.er ≠ 2 /\ ((oneC c t ⟨1, v, k⟩ ws lg).1.er = 0 →
  nmB (oneC c t ⟨1, v, k⟩ ws lg).1.n c.ti = true /\ ∀ th, Liv (relP c (oneC c t ⟨1, v, k⟩ ws lg).1.n th) (oneC c t ⟨1, v, k⟩ ws lg).2.1 /\
   ofV ((oneC c t ⟨1, v, k⟩ ws lg).2.1.getD ((relP c (oneC c t ⟨1, v, k⟩ ws lg).1.n th).tk + 1) 0) = v /\
   ofN ((oneC c t ⟨1, v, k⟩ ws lg).2.1.getD ((relP c (oneC c t ⟨1, v, k⟩ ws lg).1.n th).tk + 1) 0) = k)) := by
 cases hl : lfB c.ps v with
 | false =>
   refine Or.inl ⟨rfl, ?_⟩
   have hc : chk c ⟨1, v, k⟩ = 2 := by simp [chk, hl]
   unfold oneC
   rw [if_neg (by rw [hc]; decide)]
   exact hc
 | true =>
   refine Or.inr ⟨rfl, ?_⟩
   have hc : chk c ⟨1, v, k⟩ = 0 := by simp [chk, hl, k0, k1]
   have hp : (DP.mk c v k t).Ok := ⟨hr, hv, k0, k1, ht⟩
   obtain ⟨l, e, h6⟩ := run_ad (p := ⟨c, v, k, t⟩) hp h.calm lg
   have e : runX c 200 (.ad ⟨c, v, k, t⟩ (s0D ⟨c, v, k, t⟩)) ws lg = (.ad ⟨c, v, k, t⟩ (admS ⟨c, v, k, t⟩ ws), admW ⟨c, v, k, t⟩ ws, lg ++ l, true) := e
   have en : newX c t ⟨1, v, k⟩ = .ad ⟨c, v, k, t⟩ (s0D ⟨c, v, k, t⟩) := by unfold newX; rw [if_pos rfl]; rfl
   have eo : oneC c t ⟨1, v, k⟩ ws lg = (⟨(admS ⟨c, v, k, t⟩ ws).er, (admS ⟨c, v, k, t⟩ ws).an, false, (admS ⟨c, v, k, t⟩ ws).nd⟩, admW ⟨c, v, k, t⟩ ws, lg ++ l) := by
    unfold oneC; rw [if_pos hc, en, e]; simp only [ansX]; rw [if_pos h6]
   have hf := zSa hp (show (1099511627776 : Int) <= 9000000000000 by decide) h.calm.w
   rw [eo]
   simp only
   refine ⟨?_, fun he => ?_⟩
   ·rcases zUg hp hf with ⟨q, -⟩ | ⟨q, -⟩ | ⟨q, -⟩ <;> omega
   ·refine ⟨(adm_given hp hf he 0).1, fun th => ?_⟩
    obtain ⟨-, g1, -, -, g2, g3⟩ := adm_given hp hf he th
    exact ⟨g1, g2, g3⟩
theorem back_rel (hr : c.Rt) (h : Rs c ws) {hd : Int} (hn : nmB hd c.ti = true) {t : Nat} (ht : t <= 1000) (lg : List Acc) :
 (Liv (relP c hd t) ws -> (oneC c t ⟨2, 0, hd⟩ ws lg).1 = ⟨0, ofN (ws.getD ((relP c hd t).tk + 1) 0), false, ofV (ws.getD ((relP c hd t).tk + 1) 0)⟩ /\ ∀ th, ¬ Liv (relP c hd th) (oneC c t ⟨2, 0, hd⟩ ws lg).2.1) /\
 (¬ Liv (relP c hd t) ws -> (oneC c t ⟨2, 0, hd⟩ ws lg).1 = ⟨5, 0, false, 0⟩) := by
 have hc : chk c ⟨2, 0, hd⟩ = 0 := by simp [chk, hn]
 have hp := relP_ok (th := t) hr hn ht
 obtain ⟨k, s', ws', l, lg', e, h6, hI, hA⟩ := run_re hp h.calm lg
 have en : newX c t ⟨2, 0, hd⟩ = .re (relP c hd t) s0R := by simp [newX]
 have e : runX c 200 (.re (relP c hd t) s0R) ws lg = (.re (relP c hd t) s', ws', lg ++ l, true) := e
 have eo : oneC c t ⟨2, 0, hd⟩ ws lg = (⟨s'.er, s'.an, false, s'.nd⟩, ws', lg ++ l) := by
  unfold oneC; rw [if_pos hc, en, e]; simp only [ansX]; rw [if_pos h6]
 rw [eo]
 simp only
 refine ⟨fun hL => ?_, fun hL => ?_⟩
 ·obtain ⟨a1, a2, a3, -⟩ := hA.good hL
  exact ⟨by rw [a1, a2, a3], fun th => rel_none hL hA⟩
 ·obtain ⟨-, a1, a2, a3, -⟩ := hA.none hL
  rw [a1, a2, a3]
theorem back_all (hr : c.Rt) (h : Rs c ws) {v : Nat} (hv : v < c.ps.length) {k : Int} (k0 : 1 <= k) (k1 : k <= 1048576) (lg : List Acc) (he : (oneC c 1 ⟨1, v, k⟩ ws lg).1.er = 0) (lg1 lg2 : List Acc) :
 (oneC c 2 ⟨2, 0, (oneC c 1 ⟨1, v, k⟩ ws lg).1.n⟩ (oneC c 1 ⟨1, v, k⟩ ws lg).2.1 lg1).1 = ⟨0, k, false, v⟩ /\
 (oneC c 3 ⟨2, 0, (oneC c 1 ⟨1, v, k⟩ ws lg).1.n⟩ (oneC c 2 ⟨2, 0, (oneC c 1 ⟨1, v, k⟩ ws lg).1.n⟩ (oneC c 1 ⟨1, v, k⟩ ws lg).2.1 lg1).2.1 lg2).1 = ⟨5, 0, false, 0⟩ := by
 rcases back_adm hr h hv k0 k1 (t := 1) (by omega) lg with ⟨-, e⟩ | ⟨-, -, H⟩
 ·omega
 ·obtain ⟨hn, H2⟩ := H he
  have R1 := (Rs.one hr h (t := 1) (by omega) ⟨1, v, k⟩ lg).rs
  generalize (oneC c 1 ⟨1, v, k⟩ ws lg).1.n = hd at *
  generalize (oneC c 1 ⟨1, v, k⟩ ws lg).2.1 = w1 at *
  obtain ⟨q1, q2, q3⟩ := H2 2
  obtain ⟨r1, r2⟩ := (back_rel hr R1 hn (t := 2) (by omega) lg1).1 q1
  have R2 := (Rs.one hr R1 (t := 2) (by omega) ⟨2, 0, hd⟩ lg1).rs
  refine ⟨by rw [r1, q2, q3], ?_⟩
  exact (back_rel hr R2 hn (t := 3) (by omega) lg2).2 (r2 3)
end
end Go.Proofs.YtdglnpfnjinbkaaGreat
