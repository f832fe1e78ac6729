/- The adding machine of chapter 6 as a plain function of its state, of words and of a log. No program in it. -/
import Derived.Test.YtikncpmkjcnhhaaMemA
import Derived.Test.YtikncpmkjcnhhaaPackLaws
import Derived.Test.YtikncpmkjcnhhaaDraw
namespace Go.Proofs.Ytikncpmkjcnhhaa
open Go.RowKit
set_option linter.unusedVariables false
/-- What is asked: the counter's first word, its stripes, the gate, the number. -/
structure AP where
  b : Nat
  S : Int
  g : Int
  d : Int
/-- Where a machine stands (9: its end), and what it knows. -/
structure AS where
  at_ : Nat
  x : Int
  l : Int
  i : Nat
  w : Int
  v : Int
def nxt (w v : Int) : Int := sg (pmk ((pver w + 1) % 4294967296) v)
def missA (p : AP) (s : AS) : AS := if s.l < p.S then ⟨8, s.x, s.l, s.i, s.w, s.v⟩ else ⟨0, nx (dr s.x), s.l, s.i, s.w, s.v⟩
def stepA (p : AP) (s : AS) (ws : List Int) (lg : List Acc) : AS × List Int × List Acc × Bool :=
  match s.at_ with
  | 0 => (⟨1, s.x, ws.getD (p.b + 3) 0, (s.x % ws.getD (p.b + 3) 0).toNat, s.w, s.v⟩, ws, lg ++ [⟨1, (p.b : Int) + 3, ws.getD (p.b + 3) 0, 0, false⟩], false)
  | 1 => (⟨if -p.g < pval (ws.getD (p.b + 4 + s.i) 0) + p.d ∧ pval (ws.getD (p.b + 4 + s.i) 0) + p.d < p.g then 2 else 3, s.x, s.l, s.i, ws.getD (p.b + 4 + s.i) 0, pval (ws.getD (p.b + 4 + s.i) 0) + p.d⟩, ws, lg ++ [⟨1, (p.b : Int) + 4 + s.i, ws.getD (p.b + 4 + s.i) 0, 0, false⟩], false)
  | 2 => if ws.getD (p.b + 4 + s.i) 0 = s.w then (⟨9, s.x, s.l, s.i, s.w, s.v⟩, ws.set (p.b + 4 + s.i) (nxt s.w s.v), lg ++ [⟨3, (p.b : Int) + 4 + s.i, s.w, nxt s.w s.v, true⟩], true)
      else (missA p s, ws, lg ++ [⟨3, (p.b : Int) + 4 + s.i, s.w, nxt s.w s.v, false⟩], false)
  | 3 => (⟨4, s.x, s.l, s.i, s.w, s.v⟩, ws.set (p.b + 1) (wrap64 (ws.getD (p.b + 1) 0 + 1)), lg ++ [⟨2, (p.b : Int) + 1, 1, wrap64 (ws.getD (p.b + 1) 0 + 1), false⟩], false)
  | 4 => if ws.getD (p.b + 4 + s.i) 0 = s.w then (⟨5, s.x, s.l, s.i, s.w, s.v⟩, ws.set (p.b + 4 + s.i) (nxt s.w 0), lg ++ [⟨3, (p.b : Int) + 4 + s.i, s.w, nxt s.w 0, true⟩], false)
      else (⟨7, s.x, s.l, s.i, s.w, s.v⟩, ws, lg ++ [⟨3, (p.b : Int) + 4 + s.i, s.w, nxt s.w 0, false⟩], false)
  | 5 => (⟨6, s.x, s.l, s.i, s.w, s.v⟩, ws.set p.b (wrap64 (ws.getD p.b 0 + s.v)), lg ++ [⟨2, (p.b : Int), s.v, wrap64 (ws.getD p.b 0 + s.v), false⟩], false)
  | 6 => (⟨9, s.x, s.l, s.i, s.w, s.v⟩, ws.set (p.b + 2) (wrap64 (ws.getD (p.b + 2) 0 + 1)), lg ++ [⟨2, (p.b : Int) + 2, 1, wrap64 (ws.getD (p.b + 2) 0 + 1), false⟩], true)
  | 7 => (missA p s, ws.set (p.b + 2) (wrap64 (ws.getD (p.b + 2) 0 + 1)), lg ++ [⟨2, (p.b : Int) + 2, 1, wrap64 (ws.getD (p.b + 2) 0 + 1), false⟩], false)
  | 8 => (⟨0, nx (dr s.x), s.l, s.i, s.w, s.v⟩, if ws.getD (p.b + 3) 0 = s.l then ws.set (p.b + 3) (2 * s.l) else ws, lg ++ [⟨3, (p.b : Int) + 3, s.l, 2 * s.l, ws.getD (p.b + 3) 0 == s.l⟩], false)
  | _ => (s, ws, lg, true)
/-- A power of two up to 8. -/
def Pow8 (a : Int) : Prop := a = 1 ∨ a = 2 ∨ a = 4 ∨ a = 8
def I64 (a : Int) : Prop := -9223372036854775808 ≤ a ∧ a ≤ 9223372036854775807
/-- What is asked may be asked. -/
structure AP.Ok (p : AP) : Prop where
  b : p.b ≤ 1000
  S : Pow8 p.S
  g0 : 1 ≤ p.g
  g1 : p.g ≤ 1048576
  d0 : -1048576 ≤ p.d
  d1 : p.d ≤ 1048576
/-- Words as chapter 6 has them: live, and the stripes within the gate. -/
structure WOk (p : AP) (ws : List Int) : Prop where
  len : p.b + 4 + p.S.toNat ≤ ws.length
  most : ws.length ≤ 1020
  wf : ∀ k, I64 (ws.getD k 0)
  live : Pow8 (ws.getD (p.b + 3) 0)
  live2 : ws.getD (p.b + 3) 0 ≤ p.S
  gate : ∀ k : Nat, (k : Int) < p.S → -p.g < pval (ws.getD (p.b + 4 + k) 0) ∧ pval (ws.getD (p.b + 4 + k) 0) < p.g
/-- What a machine knows may be. -/
structure SOk (p : AP) (s : AS) : Prop where
  at_ : s.at_ ≤ 9
  x0 : 1 ≤ s.x
  x1 : s.x ≤ 4294967295
  l : s.at_ ≠ 0 → s.at_ ≠ 9 → Pow8 s.l ∧ s.l ≤ p.S
  l8 : s.at_ = 8 → s.l < p.S
  lI : I64 s.l
  i : s.at_ ≠ 0 → s.at_ ≠ 9 → (s.i : Int) < p.S
  iI : s.i < 8
  w : I64 s.w
  wg : 2 ≤ s.at_ → s.at_ ≤ 7 → -p.g < pval s.w ∧ pval s.w < p.g ∧ s.v = pval s.w + p.d
  v2 : s.at_ = 2 → -p.g < s.v ∧ s.v < p.g
  vI : I64 s.v
theorem wrap64_I (a : Int) : I64 (wrap64 a) := by unfold I64 wrap64; omega
theorem sg_I (a : Int) : I64 (sg a) := wrap64_I a
theorem pval_nxt (w v : Int) (h0 : -2147483648 ≤ v) (h1 : v ≤ 2147483647) : pval (nxt w v) = v := by
  unfold nxt sg pmk pval wrap32 wrap64; omega
theorem pver_nxt (w v : Int) : pver (nxt w v) = (pver w + 1) % 4294967296 := by
  have := pver_bd w
  unfold nxt sg; generalize (pver w + 1) = a; unfold pmk pver wrap64; omega
theorem nxt_I (w v : Int) : I64 (nxt w v) := sg_I _
theorem getD_set (ws : List Int) (i k : Nat) (x : Int) : (ws.set i x).getD k 0 = if i = k ∧ i < ws.length then x else ws.getD k 0 := by
  simp only [List.getD_eq_getElem?_getD, List.getElem?_set]
  by_cases h : i = k
  · subst h
    by_cases h2 : i < ws.length
    · simp [h2]
    · simp [h2]
  · simp [h]
end Go.Proofs.Ytikncpmkjcnhhaa
