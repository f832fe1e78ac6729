/- The functions of breadlinelaw08: Good, Of. -/
import Derived.Test.YtljimbkafijnnaaPoolArg
import Derived.Test.YtljimbkafijnnaaPlanRef
import Derived.Test.YtljimbkafijnnaaConfRef
import Derived.BigQuiet
import Derived.Deep.QuietTactic
namespace Go.Proofs.Ytljimbkafijnnaa
open Go.ChangeShapes Go.WideShapes Go.ChangeAt Go.RowKit Go.Shelf
set_option linter.unusedVariables false
set_option linter.unusedSimpArgs false
set_option maxRecDepth 100000
variable {w0 w w' W : World} {F0 : Nat → Prop} {L : List Asn} {T : TypeId} {m : Nat} {ws : List Int} {lg : List Acc}
structure GoodP (x : Po) : Prop where
  rt : x.c.Rt
  l : x.l.length ≤ 40
  ls : x.ls.length ≤ 20
/-- The rows of a pool that came in. -/
structure PoAt (W : World) (x : Po) (vp vl ve vk : Value) : Prop where
  wd : Wide x.c
  wf : x.Wf
  p : IntsAt W .i64 vp x.c.ps
  l : IntsAt W .i64 vl x.c.ls
  e : IntsAt W .u32 ve x.ls
  k : PksAt W vk x.l
theorem PoAt.stp {x : Po} {vp vl ve vk : Value} (h : PoAt W x vp vl ve vk) (hb : Stp W w) : PoAt w x vp vl ve vk := ⟨h.wd, h.wf, h.p.stp hb, h.l.stp hb, h.e.stp hb, RowAt.below h.k hb⟩
section
variable {x : Po} {pp pl pe pk : Option Addr} {cp cl ce ck : Nat}
end
theorem PksAt.slice {v : Value} {l : List Pk} (h : PksAt w v l) : ∃ p cap, v = .slice p l.length cap := RowAt.slice h
def Po.v (x : Po) : Int := x.nd % (x.c.ps.length : Int)
def Po.k (x : Po) : Int := x.n % 1048576 + 1
def Po.s (x : Po) : Int := x.sp % x.c.st
theorem Po.v_bd {x : Po} (hr : x.c.Rt) : 0 ≤ x.v ∧ x.v < (x.c.ps.length : Int) := by
  have := hr.n0
  unfold Po.v
  exact ⟨Int.emod_nonneg _ (by omega), Int.emod_lt_of_pos _ (by omega)⟩
theorem Po.s_bd {x : Po} (hr : x.c.Rt) : 0 ≤ x.s ∧ x.s < x.c.st := by
  have := hr.sm
  unfold Sm at this
  unfold Po.s
  exact ⟨Int.emod_nonneg _ (by omega), Int.emod_lt_of_pos _ (by omega)⟩
theorem Po.k_bd {x : Po} : 1 ≤ x.k ∧ x.k ≤ 1048576 := by unfold Po.k; omega
/-- Where the node's words begin. -/
def Po.b (x : Po) : Nat := limN x.c x.v.toNat
def poR (x : Po) : Nat := min x.c.st.toNat x.ls.length
def poW (x : Po) : Nat → List Int
  | 0 => (freshW x.c x.c.ps.length).set (x.b + 1) x.av
  | k + 1 => (poW x k).set (x.b + 2 + k) (x.ls.getD k 0 % (x.c.le + 1))
theorem poW_len (x : Po) : ∀ k, (poW x k).length = sizeN x.c
  | 0 => by simp [poW, freshW_len]
  | k + 1 => by rw [poW, List.length_set, poW_len x k]
theorem Po.b_eq {x : Po} (hr : x.c.Rt) : lim x.c x.v = (x.b : Int) := by
  have := (Po.v_bd hr).1
  have e := limN_eq hr.sm x.v.toNat
  rw [Int.toNat_of_nonneg this] at e
  exact e
theorem Po.b_in {x : Po} (hr : x.c.Rt) : x.b + 6 + 2 * x.c.st.toNat ≤ sizeN x.c ∧ sizeN x.c ≤ 400 := by
  have h1 := Po.v_bd hr
  have h2 := (sizeN_eq hr).2
  refine ⟨?_, h2⟩
  have h3 := limN_mono (c := x.c) (a := x.v.toNat + 1) (b := x.c.ps.length) (by omega)
  have h4 : limN x.c (x.v.toNat + 1) = x.b + (6 + 2 * x.c.st.toNat) := by unfold Po.b limN; rw [Nat.succ_mul]
  unfold sizeN; omega
end Go.Proofs.Ytljimbkafijnnaa
