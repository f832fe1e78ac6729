import Derived.Laws.BitsAllLaws
import Derived.IntWalk
namespace Go.Proofs.Ytikncpmkjcnhhaa

/-- One step of the row: put together with itself shifted. -/
def s13 (a : Int) : Int := bits .xor .u32 a (a * 8192 % 4294967296)
def s17 (a : Int) : Int := bits .xor .u32 a (a / 131072)
def s5 (a : Int) : Int := bits .xor .u32 a (a * 32 % 4294967296)
/-- The next draw of a draw. -/
def nx (a : Int) : Int := s5 (s17 (s13 a))
/-- The draw that a number is taken for. -/
def dr (x : Int) : Int := if 1 ≤ x ∧ x ≤ 4294967295 then x else 1

def S13 (b : BitVec 32) : BitVec 32 := b ^^^ b <<< 13
def S17 (b : BitVec 32) : BitVec 32 := b ^^^ b >>> 17
def S5 (b : BitVec 32) : BitVec 32 := b ^^^ b <<< 5
def NX (b : BitVec 32) : BitVec 32 := S5 (S17 (S13 b))

theorem S13_xor (a b : BitVec 32) : S13 (a ^^^ b) = S13 a ^^^ S13 b := by
  unfold S13; rw [BitVec.shiftLeft_xor_distrib]; ac_rfl
theorem S17_xor (a b : BitVec 32) : S17 (a ^^^ b) = S17 a ^^^ S17 b := by
  unfold S17; rw [BitVec.ushiftRight_xor_distrib]; ac_rfl
theorem S5_xor (a b : BitVec 32) : S5 (a ^^^ b) = S5 a ^^^ S5 b := by
  unfold S5; rw [BitVec.shiftLeft_xor_distrib]; ac_rfl
theorem NX_xor (a b : BitVec 32) : NX (a ^^^ b) = NX a ^^^ NX b := by
  unfold NX; rw [S13_xor, S17_xor, S5_xor]

theorem xor_self_eq (a b : BitVec 32) (h : a ^^^ b = 0#32) : a = b := by
  have : a ^^^ b ^^^ b = 0#32 ^^^ b := by rw [h]
  simpa [BitVec.xor_assoc] using this
theorem S13_zero (b : BitVec 32) (h : S13 b = 0#32) : b = 0#32 := by
  have h1 : b = b <<< 13 := xor_self_eq _ _ h
  rw [h1, h1, h1, ← BitVec.shiftLeft_add, ← BitVec.shiftLeft_add]
  exact BitVec.shiftLeft_eq_zero (by decide)
theorem S17_zero (b : BitVec 32) (h : S17 b = 0#32) : b = 0#32 := by
  have h1 : b = b >>> 17 := xor_self_eq _ _ h
  rw [h1, h1, ← BitVec.shiftRight_add]
  exact BitVec.ushiftRight_eq_zero (by decide)
theorem S5_zero (b : BitVec 32) (h : S5 b = 0#32) : b = 0#32 := by
  have h1 : b = b <<< 5 := xor_self_eq _ _ h
  rw [h1, h1, h1, h1, h1, h1, h1]
  simp only [← BitVec.shiftLeft_add]
  exact BitVec.shiftLeft_eq_zero (by decide)
theorem NX_zero (b : BitVec 32) (h : NX b = 0#32) : b = 0#32 := S13_zero _ (S17_zero _ (S5_zero _ h))
theorem NX_inj (a b : BitVec 32) (h : NX a = NX b) : a = b := by
  apply xor_self_eq
  apply NX_zero
  rw [NX_xor, h, BitVec.xor_self]

/-- A number of 32 bits, as bits. -/
def bv (a : Int) : BitVec 32 := BitVec.ofNat 32 a.toNat
def vb (b : BitVec 32) : Int := (b.toNat : Int)
theorem vb_bd (b : BitVec 32) : 0 ≤ vb b ∧ vb b ≤ 4294967295 := by unfold vb; have := b.isLt; omega
theorem bv_vb (b : BitVec 32) : bv (vb b) = b := by unfold bv vb; rw [Int.toNat_natCast, BitVec.ofNat_toNat, BitVec.setWidth_eq]
theorem vb_bv (a : Int) (h0 : 0 ≤ a) (h1 : a ≤ 4294967295) : vb (bv a) = a := by unfold bv vb; rw [BitVec.toNat_ofNat]; omega
theorem vb_xor (a b : BitVec 32) : bits .xor .u32 (vb a) (vb b) = vb (a ^^^ b) := by
  have ha := vb_bd a
  have hb := vb_bd b
  rw [u32_xor _ _ ha.1 (by omega) hb.1 (by omega)]
  unfold vb
  rw [Int.toNat_natCast, Int.toNat_natCast, BitVec.toNat_xor]
theorem vb_shl (b : BitVec 32) (k : Nat) : vb b * ((2 ^ k : Nat) : Int) % 4294967296 = vb (b <<< k) := by
  unfold vb
  rw [BitVec.toNat_shiftLeft, Nat.shiftLeft_eq, Int.natCast_emod, Int.natCast_mul]
  rfl
theorem vb_shr (b : BitVec 32) (k : Nat) : vb b / ((2 ^ k : Nat) : Int) = vb (b >>> k) := by
  unfold vb
  rw [BitVec.toNat_ushiftRight, Nat.shiftRight_eq_div_pow, Int.natCast_ediv]
theorem s13_vb (b : BitVec 32) : s13 (vb b) = vb (S13 b) := by
  unfold s13 S13
  rw [show (8192 : Int) = ((2 ^ 13 : Nat) : Int) from rfl, vb_shl, vb_xor]
theorem s17_vb (b : BitVec 32) : s17 (vb b) = vb (S17 b) := by
  unfold s17 S17
  rw [show (131072 : Int) = ((2 ^ 17 : Nat) : Int) from rfl, vb_shr, vb_xor]
theorem s5_vb (b : BitVec 32) : s5 (vb b) = vb (S5 b) := by
  unfold s5 S5
  rw [show (32 : Int) = ((2 ^ 5 : Nat) : Int) from rfl, vb_shl, vb_xor]
theorem nx_vb (b : BitVec 32) : nx (vb b) = vb (NX b) := by
  unfold nx NX
  rw [s13_vb, s17_vb, s5_vb]

theorem s13_bd (a : Int) (h0 : 0 ≤ a) (h1 : a ≤ 4294967295) : 0 ≤ s13 a ∧ s13 a ≤ 4294967295 := by
  rw [← vb_bv a h0 h1, s13_vb]; exact vb_bd _
theorem s17_bd (a : Int) (h0 : 0 ≤ a) (h1 : a ≤ 4294967295) : 0 ≤ s17 a ∧ s17 a ≤ 4294967295 := by
  rw [← vb_bv a h0 h1, s17_vb]; exact vb_bd _
theorem s5_bd (a : Int) (h0 : 0 ≤ a) (h1 : a ≤ 4294967295) : 0 ≤ s5 a ∧ s5 a ≤ 4294967295 := by
  rw [← vb_bv a h0 h1, s5_vb]; exact vb_bd _
theorem nx_bd (a : Int) (h0 : 1 ≤ a) (h1 : a ≤ 4294967295) : 1 ≤ nx a ∧ nx a ≤ 4294967295 := by
  rw [← vb_bv a (by omega) h1, nx_vb]
  have hb := vb_bd (NX (bv a))
  refine ⟨?_, hb.2⟩
  by_cases h : vb (NX (bv a)) = 0
  · have hz : NX (bv a) = 0#32 := by rw [← bv_vb (NX (bv a)), h]; rfl
    have ha := NX_zero _ hz
    have := vb_bv a (by omega) h1
    rw [ha] at this
    have h0' : vb 0#32 = 0 := rfl
    omega
  · omega
theorem nx_inj (a b : Int) (h0 : 0 ≤ a) (h1 : a ≤ 4294967295) (k0 : 0 ≤ b) (k1 : b ≤ 4294967295) (h : nx a = nx b) : a = b := by
  rw [← vb_bv a h0 h1, ← vb_bv b k0 k1, nx_vb, nx_vb] at h
  have := congrArg bv h
  rw [bv_vb, bv_vb] at this
  rw [← vb_bv a h0 h1, ← vb_bv b k0 k1, NX_inj _ _ this]
theorem xor64 (a b : Int) (h0 : 0 ≤ a) (h1 : a ≤ 4294967295) (k0 : 0 ≤ b) (k1 : b ≤ 4294967295) : bits .xor .i64 a b = vb (bv a ^^^ bv b) := by
  obtain ⟨a, rfl⟩ := Int.eq_ofNat_of_zero_le h0
  obtain ⟨b, rfl⟩ := Int.eq_ofNat_of_zero_le k0
  have ha : a < 2 ^ 32 := by omega
  have hb : b < 2 ^ 32 := by omega
  have hx := Nat.xor_lt_two_pow ha hb
  have e64 : (BitVec.ofInt 64 (a : Int) ^^^ BitVec.ofInt 64 (b : Int)).toNat = a ^^^ b := by
    rw [BitVec.toNat_xor, BitVec.ofInt_natCast, BitVec.ofInt_natCast, BitVec.toNat_ofNat, BitVec.toNat_ofNat, Nat.mod_eq_of_lt (show a < 2 ^ 64 by omega), Nat.mod_eq_of_lt (show b < 2 ^ 64 by omega)]
  have e32 : (bv (a : Int) ^^^ bv (b : Int)).toNat = a ^^^ b := by
    unfold bv
    rw [BitVec.toNat_xor, BitVec.toNat_ofNat, BitVec.toNat_ofNat, Int.toNat_natCast, Int.toNat_natCast, Nat.mod_eq_of_lt ha, Nat.mod_eq_of_lt hb]
  unfold vb
  rw [e32]
  show IntKind.i64.wrap ((BitVec.ofInt 64 (a : Int) ^^^ BitVec.ofInt 64 (b : Int)).toNat : Int) = _
  rw [e64]
  exact IntWalk.i64_in _ (by omega)
theorem xor64_bd (a b : Int) (h0 : 0 ≤ a) (h1 : a ≤ 4294967295) (k0 : 0 ≤ b) (k1 : b ≤ 4294967295) (h : a ≠ b) : 1 ≤ bits .xor .i64 a b ∧ bits .xor .i64 a b ≤ 4294967295 := by
  rw [xor64 a b h0 h1 k0 k1]
  have hb := vb_bd (bv a ^^^ bv b)
  refine ⟨?_, hb.2⟩
  by_cases hz : vb (bv a ^^^ bv b) = 0
  · have hz' : bv a ^^^ bv b = 0#32 := by rw [← bv_vb (bv a ^^^ bv b), hz]; rfl
    have := xor_self_eq _ _ hz'
    exact absurd (by rw [← vb_bv a h0 h1, ← vb_bv b k0 k1, this]) h
  · omega
theorem nx_xor (a b : Int) (h0 : 1 ≤ a) (h1 : a ≤ 4294967295) (k0 : 1 ≤ b) (k1 : b ≤ 4294967295) : nx (bits .xor .i64 a b) = bits .xor .i64 (nx a) (nx b) := by
  have ha := nx_bd a h0 h1
  have hb := nx_bd b k0 k1
  rw [xor64 a b (by omega) h1 (by omega) k1, xor64 (nx a) (nx b) (by omega) ha.2 (by omega) hb.2, nx_vb, NX_xor]
  have e1 : bv (nx a) = NX (bv a) := by
    rw [show nx a = nx (vb (bv a)) by rw [vb_bv a (by omega) h1], nx_vb, bv_vb]
  have e2 : bv (nx b) = NX (bv b) := by
    rw [show nx b = nx (vb (bv b)) by rw [vb_bv b (by omega) k1], nx_vb, bv_vb]
  rw [e1, e2]
end Go.Proofs.Ytikncpmkjcnhhaa
