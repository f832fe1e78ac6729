import Derived.Test.YtmacnldbeflklaaPackLaws
namespace Go.Proofs.Ytmacnldbeflklaa
open Go.ChangeShapes Go.WideShapes Go.ChangeAt Go.RowKit

/-- The word behind x, with the value z. -/
def nxt (x z : Int) : Int := sg (pmk ((pver x + 1) % 4294967296) z)
/-- The word behind k of them. -/
def wrd (a : Int) (zs : List Int) : Nat → Int
  | 0 => a
  | k + 1 => nxt (wrd a zs k) (zs.getD k 0)
theorem wrd_bd (a : Int) (zs : List Int) (h0 : -9223372036854775808 ≤ a) (h1 : a ≤ 9223372036854775807) : ∀ k, -9223372036854775808 ≤ wrd a zs k ∧ wrd a zs k ≤ 9223372036854775807
  | 0 => ⟨h0, h1⟩
  | _ + 1 => sg_bd _
theorem nxt_pver (x z : Int) (h2 : -2147483648 ≤ z) (h3 : z ≤ 2147483647) : pver (nxt x z) = (pver x + 1) % 4294967296 := by
  have hu := up_bd x
  exact sg_pver _ z hu.1 hu.2 h2 h3
theorem nxt_pval (x z : Int) (h2 : -2147483648 ≤ z) (h3 : z ≤ 2147483647) : pval (nxt x z) = z := by
  have hu := up_bd x
  exact sg_pval _ z hu.1 hu.2 h2 h3
theorem nxt_bd (x z : Int) : -9223372036854775808 ≤ nxt x z ∧ nxt x z ≤ 9223372036854775807 := sg_bd _
theorem wrd_pver (a : Int) (zs : List Int) (hz : ∀ j, j < zs.length → -2147483648 ≤ zs.getD j 0 ∧ zs.getD j 0 ≤ 2147483647) : ∀ k, k ≤ zs.length → pver (wrd a zs k) = (pver a + k) % 4294967296
  | 0, _ => by have := pver_bd a; simp only [wrd]; omega
  | k + 1, hk => by
    have ih := wrd_pver a zs hz k (by omega)
    have hb := hz k (by omega)
    simp only [wrd]
    rw [nxt_pver _ _ hb.1 hb.2, ih]; omega
theorem wrd_ne (a : Int) (zs : List Int) (hz : ∀ j, j < zs.length → -2147483648 ≤ zs.getD j 0 ∧ zs.getD j 0 ≤ 2147483647) (hl : zs.length ≤ 300) {i k : Nat} (hi : i < k) (hk : k ≤ zs.length) : wrd a zs i ≠ wrd a zs k := by
  intro e
  have h1 := wrd_pver a zs hz i (by omega)
  have h2 := wrd_pver a zs hz k hk
  rw [e, h2] at h1
  have := pver_bd a
  omega
def metL (a : Int) (zs : List Int) (k : Nat) : List Value := (List.range k).map fun j => Value.int .i64 (wrd a zs j)
theorem metL_len (a : Int) (zs : List Int) (k : Nat) : (metL a zs k).length = k := by simp [metL]
theorem metL_succ (a : Int) (zs : List Int) (k : Nat) : metL a zs k ++ [Value.int .i64 (wrd a zs k)] = metL a zs (k + 1) := by simp [metL, List.range_succ]
theorem metL_get (a : Int) (zs : List Int) (k j : Nat) (h : j < k) : (metL a zs k).getD j undef = Value.int .i64 (wrd a zs j) := by simp [metL, List.getD, h]
theorem metL_get? (a : Int) (zs : List Int) (k j : Nat) (h : j < k) : (metL a zs k)[j]? = some (Value.int .i64 (wrd a zs j)) := by simp [metL, h]
end Go.Proofs.Ytmacnldbeflklaa
