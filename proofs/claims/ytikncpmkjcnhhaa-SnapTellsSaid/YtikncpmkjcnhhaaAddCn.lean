/- The counters of breadlinelaw06's laws: Size, amount. -/
import Derived.Test.YtikncpmkjcnhhaaAddFns
import Derived.Test.YtikncpmkjcnhhaaPackRef
import Derived.BigQuiet
namespace Go.Proofs.Ytikncpmkjcnhhaa
open Go.ChangeShapes Go.WideShapes Go.ChangeAt Go.RowKit Go.Shelf
set_option linter.unusedVariables false
set_option maxRecDepth 100000
variable {w0 w w' : World} {F0 : Nat → Prop} {L : List Asn} {T : TypeId} {m : Nat} {ws : List Int} {lg : List Acc}
/-- A block of ints. -/
def iB (c : Nat) (ws : List Int) : Asn := blk c (.cells (intC ws).toArray 3 (0, 0))
theorem Own.iAt {c : Nat} {ws : List Int} (h : Own w0 F0 (iB c ws :: L) w) (j : Nat) (hj : j < ws.length) : w.cell? ⟨c, j, none⟩ = some (.int .i64 (ws.getD j 0)) :=
  h.cell (by simp [intC, hj])
theorem Own.iSet {c : Nat} {ws : List Int} (h : Own w0 F0 (iB c ws :: L) w) (j : Nat) (x : Int) : Own w0 F0 (iB c (ws.set j x) :: L) (w.setCell ⟨c, j, none⟩ (.int .i64 x)) := by
  have := Own.set h j (.int .i64 x)
  rw [show ((intC ws).toArray.setIfInBounds j (.int .i64 x)) = (intC (ws.set j x)).toArray by simp [intC]] at this
  exact this
theorem Own.iRow {c n : Nat} {ws : List Int} (h : Own w0 F0 (iB c ws :: L) w) (hn : ws.length = n) (hm : n ≤ 1000000) : Own w0 F0 (row (.slice (some ⟨c, 0, none⟩) n n) 3 1 n (intC ws) :: L) w :=
  Own.blkRow h (Nat.le_refl _) (by unfold maxLen; omega) (by simp [intC, hn]) (by simp [intC]; exact List.take_of_length_le (by simp; omega)) (by simp [intC, hn])
theorem iNew (n : Nat) (h : Own w0 F0 L w) : Own w0 F0 (iB w.heap.size (List.replicate n 0) :: L) (w.alloc (.cells (zeroInts n) 3)) := by
  have := h.new (.cells (zeroInts n) 3)
  unfold iB
  rw [← zeroInts_list]
  exact this
/-- A counter that came in. -/
structure Cn where
  bs : Int
  st : Int
  ga : Int
  gl : Int
  lv : Int
  ver : List Int
  val : List Int
structure Cn.Wf (c : Cn) : Prop where
  b0 : 0 ≤ c.bs
  b1 : c.bs ≤ 255
  s0 : 0 ≤ c.st
  s1 : c.st ≤ 255
  g0 : 0 ≤ c.ga
  g1 : c.ga ≤ 65535
  l0 : -2147483648 ≤ c.gl
  l1 : c.gl ≤ 2147483647
  v0 : 0 ≤ c.lv
  v1 : c.lv ≤ 255
  er : ∀ i, i < c.ver.length → 0 ≤ c.ver.getD i 0 ∧ c.ver.getD i 0 ≤ 4294967295
  al : ∀ i, i < c.val.length → -2147483648 ≤ c.val.getD i 0 ∧ c.val.getD i 0 ≤ 2147483647
def cnV (c : Cn) (vr vl : Value) : Value := .agg #[.int .u8 c.bs, .int .u8 c.st, .int .u16 c.ga, .int .i32 c.gl, .int .u8 c.lv, vr, vl]
def cnO (c : Cn) (vr vl : Value) : Obj := .cells #[.int .u8 c.bs, .int .u8 c.st, .int .u16 c.ga, .int .i32 c.gl, .int .u8 c.lv, vr, vl] 26 (0, 0)
def pw4 (x : Int) : Int := if x % 4 = 0 then 1 else if x % 4 = 1 then 2 else if x % 4 = 2 then 4 else 8
theorem pw4_8 (x : Int) : Pow8 (pw4 x) := by unfold pw4 Pow8; split <;> (try split) <;> (try split) <;> simp
def Cn.lve (c : Cn) : Int := if pw4 c.lv < pw4 c.st then pw4 c.lv else pw4 c.st
def Cn.p (c : Cn) (d : Int) : AP := ⟨(c.bs % 8).toNat, pw4 c.st, c.ga % 40 + 1, d⟩
theorem Cn.live8 (c : Cn) : Pow8 c.lve ∧ c.lve ≤ pw4 c.st := by
  unfold Cn.lve
  split
  · rename_i h; exact ⟨pw4_8 _, Int.le_of_lt h⟩
  · exact ⟨pw4_8 _, Int.le_refl _⟩
theorem cnCells {c : Cn} {vr vl : Value} {k : Nat} (h : Own w0 F0 (blk k (cnO c vr vl) :: L) w) :
    w.cell? ⟨k, 0, none⟩ = some (.int .u8 c.bs) ∧ w.cell? ⟨k, 1, none⟩ = some (.int .u8 c.st) ∧ w.cell? ⟨k, 2, none⟩ = some (.int .u16 c.ga) ∧ w.cell? ⟨k, 3, none⟩ = some (.int .i32 c.gl) ∧ w.cell? ⟨k, 4, none⟩ = some (.int .u8 c.lv) ∧ w.cell? ⟨k, 5, none⟩ = some vr ∧ w.cell? ⟨k, 6, none⟩ = some vl :=
  ⟨h.cell (i := 0) rfl, h.cell (i := 1) rfl, h.cell (i := 2) rfl, h.cell (i := 3) rfl, h.cell (i := 4) rfl, h.cell (i := 5) rfl, h.cell (i := 6) rfl⟩
set_option maxHeartbeats 4000000 in
theorem Size_any (c : Cn) (vr vl : Value) (hc : c.Wf) (w : World) :
    Calls Try.prog 10 #[cnV c vr vl] w fun e w' => e = .returned (.tuple #[.int .i64 (c.bs % 8), .int .i64 (pw4 c.st), .int .i64 (c.ga % 40 + 1), .int .i64 c.lve]) ∧ Below w.heap.size w w' := by
  obtain ⟨bs, st, ga, gl, lv, ver, val⟩ := c
  obtain ⟨b0, b1, s0, s1, g0, g1, l0, l1, v0, v1, er, al⟩ := hc
  simp only at b0 b1 s0 s1 g0 g1 l0 l1 v0 v1
  clear er al
  have hs : st % 4 = 0 ∨ st % 4 = 1 ∨ st % 4 = 2 ∨ st % 4 = 3 := by omega
  have hl : lv % 4 = 0 ∨ lv % 4 = 1 ∨ lv % 4 = 2 ∨ lv % 4 = 3 := by omega
  unfold cnV
  rcases hs with hs | hs | hs | hs <;> rcases hl with hl | hl | hl | hl <;> simp only [Cn.lve, pw4, hs, hl, reduceIte, Int.reduceEq, Int.reduceLT]
  all_goals
    go_enter Try.func10, Try.ntmps10
    go_wp2_with fail
    go_quiet (fail)
    go_wp2_with fail
    (try simp only [Exit.inBlock, Exit.then])
    refine bodyPost_ret (by simp [results, Try.results10, go_sem]; try rfl) rfl ?_
    exact ⟨rfl, (((Own.start w).alloc _).drewN _).toBelow⟩
def Cn.b (c : Cn) : Nat := (c.bs % 8).toNat
def Cn.s (c : Cn) : Nat := (pw4 c.st).toNat
def Cn.g (c : Cn) : Int := c.ga % 40 + 1
theorem Cn.bE (c : Cn) (h : c.Wf) : c.bs % 8 = (c.b : Int) ∧ c.b ≤ 7 := by have := h.b0; unfold Cn.b; omega
theorem Cn.sE (c : Cn) : pw4 c.st = (c.s : Int) ∧ 1 ≤ c.s ∧ c.s ≤ 8 := by have := (pw4_8 c.st).bd; unfold Cn.s; omega
theorem Cn.gE (c : Cn) (h : c.Wf) : 1 ≤ c.g ∧ c.g ≤ 40 := by have := h.g0; unfold Cn.g; omega
def stw (c : Cn) (i : Nat) : Int := sg (pmk (c.ver.getD i 0) ((c.val.getD i 0).tmod c.g))
def wlay (c : Cn) : Nat → List Int
  | 0 => ((List.replicate (c.b + 4 + c.s + 3) 0).set c.b c.gl).set (c.b + 3) c.lve
  | k + 1 => (wlay c k).set (c.b + 4 + k) (stw c k)
theorem wlay_len (c : Cn) : ∀ k, (wlay c k).length = c.b + 4 + c.s + 3
  | 0 => by simp [wlay]
  | k + 1 => by rw [wlay, List.length_set, wlay_len c k]
theorem make_any (n : Nat) (k : Int) (hk : k = (n : Int)) (hn : n ≤ 1000000) (w : World) : (Instr.makeSlice 31 (.int .i64 k) (.int .i64 k)).run Try.prog w = .ok (.slice (some ⟨w.heap.size, 0, none⟩) n n) (w.alloc (.cells (zeroInts n) 3)) := by
  subst hk; exact make_ints n hn w
end Go.Proofs.Ytikncpmkjcnhhaa
