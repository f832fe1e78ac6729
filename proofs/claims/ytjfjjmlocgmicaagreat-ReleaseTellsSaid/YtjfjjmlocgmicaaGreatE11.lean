/- Texts of elder layers, one behind the other: AddMath, Add. -/
import Derived.Test.YtjfjjmlocgmicaaGreatE10
import Derived.Deep.RegionHeld3
import Derived.StillTailTactics
section
namespace Go.Proofs.YtjfjjmlocgmicaaGreat
open Go.RowKit
set_option linter.unusedVariables false
structure AP where
  b : Nat
  S : Int
  g : Int
  d : Int
structure AS where
  at_ : Nat
  x : Int
  l : Int
  i : Nat
  w : Int
  v : Int
def nxt (w v : Int) : Int := sg (pmk ((pver w + 1) % 4294967296) v)
def missA (p : AP) (s : AS) : AS := if s.l < p.S then ⟨8, s.x, s.l, s.i, s.w, s.v⟩ else ⟨0, nx (dr s.x), s.l, s.i, s.w, s.v⟩
def stepA (p : AP) (s : AS) (ws : List Int) (lg : List Acc) : AS × List Int × List Acc × Bool :=
  match s.at_ with
  | 0 => (⟨1, s.x, ws.getD (p.b + 3) 0, (s.x % ws.getD (p.b + 3) 0).toNat, s.w, s.v⟩, ws, lg ++ [⟨1, (p.b : Int) + 3, ws.getD (p.b + 3) 0, 0, false⟩], false)
  | 1 => (⟨if -p.g < pval (ws.getD (p.b + 4 + s.i) 0) + p.d ∧ pval (ws.getD (p.b + 4 + s.i) 0) + p.d < p.g then 2 else 3, s.x, s.l, s.i, ws.getD (p.b + 4 + s.i) 0, pval (ws.getD (p.b + 4 + s.i) 0) + p.d⟩, ws, lg ++ [⟨1, (p.b : Int) + 4 + s.i, ws.getD (p.b + 4 + s.i) 0, 0, false⟩], false)
  | 2 => if ws.getD (p.b + 4 + s.i) 0 = s.w then (⟨9, s.x, s.l, s.i, s.w, s.v⟩, ws.set (p.b + 4 + s.i) (nxt s.w s.v), lg ++ [⟨3, (p.b : Int) + 4 + s.i, s.w, nxt s.w s.v, true⟩], true)
      else (missA p s, ws, lg ++ [⟨3, (p.b : Int) + 4 + s.i, s.w, nxt s.w s.v, false⟩], false)
  | 3 => (⟨4, s.x, s.l, s.i, s.w, s.v⟩, ws.set (p.b + 1) (wrap64 (ws.getD (p.b + 1) 0 + 1)), lg ++ [⟨2, (p.b : Int) + 1, 1, wrap64 (ws.getD (p.b + 1) 0 + 1), false⟩], false)
  | 4 => if ws.getD (p.b + 4 + s.i) 0 = s.w then (⟨5, s.x, s.l, s.i, s.w, s.v⟩, ws.set (p.b + 4 + s.i) (nxt s.w 0), lg ++ [⟨3, (p.b : Int) + 4 + s.i, s.w, nxt s.w 0, true⟩], false)
      else (⟨7, s.x, s.l, s.i, s.w, s.v⟩, ws, lg ++ [⟨3, (p.b : Int) + 4 + s.i, s.w, nxt s.w 0, false⟩], false)
  | 5 => (⟨6, s.x, s.l, s.i, s.w, s.v⟩, ws.set p.b (wrap64 (ws.getD p.b 0 + s.v)), lg ++ [⟨2, (p.b : Int), s.v, wrap64 (ws.getD p.b 0 + s.v), false⟩], false)
  | 6 => (⟨9, s.x, s.l, s.i, s.w, s.v⟩, ws.set (p.b + 2) (wrap64 (ws.getD (p.b + 2) 0 + 1)), lg ++ [⟨2, (p.b : Int) + 2, 1, wrap64 (ws.getD (p.b + 2) 0 + 1), false⟩], true)
  | 7 => (missA p s, ws.set (p.b + 2) (wrap64 (ws.getD (p.b + 2) 0 + 1)), lg ++ [⟨2, (p.b : Int) + 2, 1, wrap64 (ws.getD (p.b + 2) 0 + 1), false⟩], false)
  | 8 => (⟨0, nx (dr s.x), s.l, s.i, s.w, s.v⟩, if ws.getD (p.b + 3) 0 = s.l then ws.set (p.b + 3) (2 * s.l) else ws, lg ++ [⟨3, (p.b : Int) + 3, s.l, 2 * s.l, ws.getD (p.b + 3) 0 == s.l⟩], false)
  | _ => (s, ws, lg, true)
def Pow8 (a : Int) : Prop := a = 1 ∨ a = 2 ∨ a = 4 ∨ a = 8
structure AP.Ok (p : AP) : Prop where
  b : p.b ≤ 1000
  S : Pow8 p.S
  g0 : 1 ≤ p.g
  g1 : p.g ≤ 1048576
  d0 : -1048576 ≤ p.d
  d1 : p.d ≤ 1048576
structure WOk (p : AP) (ws : List Int) : Prop where
  len : p.b + 4 + p.S.toNat ≤ ws.length
  most : ws.length ≤ 1020
  wf : ∀ k, I64 (ws.getD k 0)
  live : Pow8 (ws.getD (p.b + 3) 0)
  live2 : ws.getD (p.b + 3) 0 ≤ p.S
  gate : ∀ k : Nat, (k : Int) < p.S → -p.g < pval (ws.getD (p.b + 4 + k) 0) ∧ pval (ws.getD (p.b + 4 + k) 0) < p.g
structure SOk (p : AP) (s : AS) : Prop where
  at_ : s.at_ ≤ 9
  x0 : 1 ≤ s.x
  x1 : s.x ≤ 4294967295
  l : s.at_ ≠ 0 → s.at_ ≠ 9 → Pow8 s.l ∧ s.l ≤ p.S
  l8 : s.at_ = 8 → s.l < p.S
  lI : I64 s.l
  i : s.at_ ≠ 0 → s.at_ ≠ 9 → (s.i : Int) < p.S
  iI : s.i < 8
  w : I64 s.w
  wg : 2 ≤ s.at_ → s.at_ ≤ 7 → -p.g < pval s.w ∧ pval s.w < p.g ∧ s.v = pval s.w + p.d
  v2 : s.at_ = 2 → -p.g < s.v ∧ s.v < p.g
  vI : I64 s.v
theorem wrap64_I (a : Int) : I64 (wrap64 a) := by unfold I64 wrap64; omega
theorem sg_I (a : Int) : I64 (sg a) := wrap64_I a
theorem pval_nxt (w v : Int) (h0 : -2147483648 ≤ v) (h1 : v ≤ 2147483647) : pval (nxt w v) = v := by
  unfold nxt sg pmk pval wrap32 wrap64; omega
theorem nxt_I (w v : Int) : I64 (nxt w v) := sg_I _
end Go.Proofs.YtjfjjmlocgmicaaGreat
end
section
namespace Go.Proofs.YtjfjjmlocgmicaaGreat
open Go.ChangeShapes Go.WideShapes Go.ChangeAt Go.RowKit Go.Shelf
set_option linter.unusedVariables false
set_option maxRecDepth 100000
variable {w0 w w' : World} {F0 : Nat → Prop} {L : List Asn} {T : TypeId} {m : Nat} {ws : List Int} {lg : List Acc}
def cV (b S : Int) : Value := .agg #[.int .i64 b, .int .i64 S]
def aV (b S g d x l i wv v : Int) : Value := .agg #[.int .i64 b, .int .i64 S, .int .i64 g, .int .i64 d, .int .i64 x, .int .i64 l, .int .i64 i, .int .i64 wv, .int .i64 v]
def aO (b S g d x l i wv v : Int) : Obj := .cells #[.int .i64 b, .int .i64 S, .int .i64 g, .int .i64 d, .int .i64 x, .int .i64 l, .int .i64 i, .int .i64 wv, .int .i64 v] 184 (0, 0)
theorem aCells {k : Nat} {b S g d x l i wv v : Int} (h : Own w0 F0 (blk k (aO b S g d x l i wv v) :: L) w) :
    w.cell? ⟨k, 0, none⟩ = some (.int .i64 b) ∧ w.cell? ⟨k, 1, none⟩ = some (.int .i64 S) ∧ w.cell? ⟨k, 2, none⟩ = some (.int .i64 g) ∧ w.cell? ⟨k, 3, none⟩ = some (.int .i64 d) ∧ w.cell? ⟨k, 4, none⟩ = some (.int .i64 x) ∧ w.cell? ⟨k, 5, none⟩ = some (.int .i64 l) ∧ w.cell? ⟨k, 6, none⟩ = some (.int .i64 i) ∧ w.cell? ⟨k, 7, none⟩ = some (.int .i64 wv) ∧ w.cell? ⟨k, 8, none⟩ = some (.int .i64 v) ∧ ∀ j, w.frozen? ⟨k, j, none⟩ = false :=
  ⟨h.cell (i := 0) rfl, h.cell (i := 1) rfl, h.cell (i := 2) rfl, h.cell (i := 3) rfl, h.cell (i := 4) rfl, h.cell (i := 5) rfl, h.cell (i := 6) rfl, h.cell (i := 7) rfl, h.cell (i := 8) rfl, fun j => h.unfrozen⟩
theorem cLive_any (b S : Int) (h0 : 0 ≤ b) (h1 : b ≤ 100000) (w : World) :
    Calls Tryz.prog 177 #[cV b S] w fun e w' => e = .returned (.int .i64 (b + 3)) ∧ Below w.heap.size w w' := by
  unfold cV
  go_enter Tryz.func177, Tryz.ntmps177
  go_wp2_with fail
  go_ret
  exact ⟨rfl, (Below.refl _ _).alloc (Nat.le_refl _) _⟩
theorem cBegun_any (b S : Int) (h0 : 0 ≤ b) (h1 : b ≤ 100000) (w : World) :
    Calls Tryz.prog 187 #[cV b S] w fun e w' => e = .returned (.int .i64 (b + 1)) ∧ Below w.heap.size w w' := by
  unfold cV
  go_enter Tryz.func187, Tryz.ntmps187
  go_wp2_with fail
  go_ret
  exact ⟨rfl, (Below.refl _ _).alloc (Nat.le_refl _) _⟩
theorem cDone_any (b S : Int) (h0 : 0 ≤ b) (h1 : b ≤ 100000) (w : World) :
    Calls Tryz.prog 196 #[cV b S] w fun e w' => e = .returned (.int .i64 (b + 2)) ∧ Below w.heap.size w w' := by
  unfold cV
  go_enter Tryz.func196, Tryz.ntmps196
  go_wp2_with fail
  go_ret
  exact ⟨rfl, (Below.refl _ _).alloc (Nat.le_refl _) _⟩
theorem cGlobal_any (b S : Int) (h0 : 0 ≤ b) (h1 : b ≤ 100000) (w : World) :
    Calls Tryz.prog 194 #[cV b S] w fun e w' => e = .returned (.int .i64 b) ∧ Below w.heap.size w w' := by
  unfold cV
  go_enter Tryz.func194, Tryz.ntmps194
  go_wp2_with fail
  go_ret
  exact ⟨rfl, (Below.refl _ _).alloc (Nat.le_refl _) _⟩
theorem cStripe_any (b S i : Int) (h0 : 0 ≤ b) (h1 : b ≤ 100000) (h2 : 0 ≤ i) (h3 : i ≤ 100000) (w : World) :
    Calls Tryz.prog 181 #[cV b S, .int .i64 i] w fun e w' => e = .returned (.int .i64 (b + 4 + i)) ∧ Below w.heap.size w w' := by
  unfold cV
  go_enter Tryz.func181, Tryz.ntmps181
  go_wp2_with fail
  go_ret
  exact ⟨rfl, (Below.refl _ _).alloc (Nat.le_refl _) _⟩
theorem Load_y (i : Nat) (j y : Int) (hj : j = (i : Int)) (hy : ws.getD i 0 = y) (hi : i < ws.length) (hl : lg.length < 1000000) (h : Own w0 F0 (memA T m ws lg :: L) w) :
    Calls Tryz.prog 99 #[.pointer (some ⟨m, 0, none⟩), .int .i64 j] w fun e w' =>
      e = .returned (.int .i64 y) ∧ Own w0 F0 (memA T m ws (lg ++ [⟨1, j, y, 0, false⟩]) :: L) w' := by
  subst hj hy; exact Load_any i hi hl h
theorem Add_y (i : Nat) (j d y : Int) (hj : j = (i : Int)) (hy : ws.getD i 0 = y) (hi : i < ws.length) (hl : lg.length < 1000000) (h : Own w0 F0 (memA T m ws lg :: L) w) :
    Calls Tryz.prog 175 #[.pointer (some ⟨m, 0, none⟩), .int .i64 j, .int .i64 d] w fun e w' =>
      e = .returned (.int .i64 (wrap64 (y + d))) ∧ Own w0 F0 (memA T m (ws.set i (wrap64 (y + d))) (lg ++ [⟨2, j, d, wrap64 (y + d), false⟩]) :: L) w' := by
  subst hj hy; exact Add_any i d hi hl h
theorem Cas_y (i : Nat) (j o x : Int) (hj : j = (i : Int)) (hi : i < ws.length) (hl : lg.length < 1000000) (h : Own w0 F0 (memA T m ws lg :: L) w) :
    Calls Tryz.prog 132 #[.pointer (some ⟨m, 0, none⟩), .int .i64 j, .int .i64 o, .int .i64 x] w fun e w' =>
      e = .returned (.bool (ws.getD i 0 == o)) ∧ Own w0 F0 (memA T m (if ws.getD i 0 = o then ws.set i x else ws) (lg ++ [⟨3, j, o, x, ws.getD i 0 == o⟩]) :: L) w' := by
  subst hj
  by_cases he : ws.getD i 0 = o
  · rw [if_pos he, beq_t he]; exact Cas_yes i o x hi hl he h
  · rw [if_neg he, beq_f he]; exact Cas_no i o x hi hl he h
theorem begin_any (b : Nat) (S g d x l i wv v y : Int) (hx0 : 0 ≤ x) (hx1 : x ≤ 4294967295) (hb : b ≤ 1000) (hl : b + 3 < ws.length) (hg : lg.length < 1000000) (hy : ws.getD (b + 3) 0 = y) (hy0 : 1 ≤ y) (hy1 : y ≤ 1048576) (h : Own w0 F0 (memA T m ws lg :: L) w) :
    Calls Tryz.prog 170 #[aV b S g d x l i wv v, .pointer (some ⟨m, 0, none⟩)] w fun e w' =>
      e = .returned (.func (Fn.func 179) #[aV b S g d x y (x % y) wv v] #[]) ∧ Own w0 F0 (memA T m ws (lg ++ [⟨1, (b : Int) + 3, y, 0, false⟩]) :: L) w' := by
  have h1 := Lib.hid ((h.new (aO b S g d x l i wv v)).swap)
  have HL := fun L2 w h => Lib.hid (Load_y (w0 := w0) (F0 := F0) (L := L2) (T := T) (m := m) (ws := ws) (lg := lg) (w := w) (b + 3) ((b : Int) + 3) y (by omega) hy hl hg h)
  clear h hl hg hy
  unfold aV
  unfold aO at h1
  have B0 : (0 : Int) ≤ b := by omega
  have B1 : (b : Int) ≤ 1000 := by omega
  go_enter Tryz.func170, Tryz.ntmps170
  go_wp2_with fail
  refine (cLive_any _ _ (by omega) (by omega) _).mono ?_
  rintro e w1 ⟨rfl, hb1⟩
  have HL1 := HL _ _ (h1.out.below hb1)
  generalize w.heap.size = k at HL1 ⊢
  clear h1 HL hb1
  go_wp2_with fail
  refine HL1.out.mono ?_
  rintro e w2 ⟨rfl, hO⟩
  obtain ⟨c0, c1, c2, c3, c4, c5, c6, c7, c8, f⟩ := aCells hO.swap
  have h2 := Lib.hid (hO.swap.set 5 (.int .i64 y))
  clear HL1 hO
  go_wp2_with fail
  refine (Pick_any _ _ (by omega) (by omega) (by omega) (by omega) _).mono ?_
  rintro e w3 ⟨rfl, rfl⟩
  have h3 := Lib.hid (h2.out.set 6 (.int .i64 (x % y)))
  go_wp2_with fail
  go_ret
  exact ⟨rfl, h3.out.drop⟩
theorem again_any (b S g d x l i wv v : Int) (l0 : -9223372036854775808 ≤ x) (l1 : x ≤ 9223372036854775807) (h : Own w0 F0 L w) :
    Calls Tryz.prog 190 #[aV b S g d x l i wv v] w fun e w' =>
      e = .returned (.func (Fn.func 170) #[aV b S g d (nx (dr x)) l i wv v] #[]) ∧ Own w0 F0 L w' := by
  have h1 := Lib.hid (h.new (aO b S g d x l i wv v))
  have HN := fun w => Lib.hid (Next_any x l0 l1 w)
  clear h l0 l1
  unfold aV
  unfold aO at h1
  go_enter Tryz.func190, Tryz.ntmps190
  generalize hk : w.heap.size = k at h1
  obtain ⟨c0, c1, c2, c3, c4, c5, c6, c7, c8, f⟩ := aCells h1.out
  go_wp2_with fail
  refine (HN _).out.mono ?_
  rintro e w1 ⟨rfl, hb1⟩
  have h2 := h1.out.below hb1
  clear c0 c1 c2 c3 c4 c5 c6 c7 c8 f
  obtain ⟨c0, c1, c2, c3, c4, c5, c6, c7, c8, f⟩ := aCells h2
  have h3 := Lib.hid (h2.set 4 (.int .i64 (nx (dr x))))
  clear h1 h2 HN hk hb1
  go_wp2_with fail
  go_ret
  exact ⟨rfl, h3.out.drop⟩
theorem missed_yes (b S g d x l i wv v : Int) (hl : l < S) (h : Own w0 F0 L w) :
    Calls Tryz.prog 185 #[aV b S g d x l i wv v] w fun e w' =>
      e = .returned (.func (Fn.func 189) #[aV b S g d x l i wv v] #[]) ∧ Own w0 F0 L w' := by
  have h1 := Lib.hid (h.new (aO b S g d x l i wv v))
  clear h
  unfold aV
  unfold aO at h1
  go_enter Tryz.func185, Tryz.ntmps185
  go_wp2_with fail
  go_ret
  exact ⟨rfl, h1.out.drop⟩
theorem missed_no (b S g d x l i wv v : Int) (hl : S ≤ l) (l0 : -9223372036854775808 ≤ x) (l1 : x ≤ 9223372036854775807) (h : Own w0 F0 L w) :
    Calls Tryz.prog 185 #[aV b S g d x l i wv v] w fun e w' =>
      e = .returned (.func (Fn.func 170) #[aV b S g d (nx (dr x)) l i wv v] #[]) ∧ Own w0 F0 L w' := by
  have h1 := Lib.hid (h.new (aO b S g d x l i wv v))
  have HA := Lib.hid (again_any b S g d x l i wv v l0 l1 h1.out.drop)
  clear h l0 l1
  unfold aO at h1
  unfold aO at HA
  have hd : decide (l < S) = false := by simp; omega
  unfold aV
  unfold aV at HA
  go_enter Tryz.func185, Tryz.ntmps185
  go_wp2_with fail
  refine HA.out.mono ?_
  rintro e w1 ⟨rfl, hO⟩
  go_wp2_with fail
  go_ret
  exact ⟨rfl, hO⟩
theorem swap_any (b i : Nat) (S g d x l wv v tgt : Int) (hb : b ≤ 1000) (hi : i ≤ 8) (hl : b + 4 + i < ws.length) (hg : lg.length < 1000000) (t0 : -2147483648 ≤ tgt) (t1 : tgt ≤ 2147483647) (l0 : -9223372036854775808 ≤ wv) (l1 : wv ≤ 9223372036854775807) (h : Own w0 F0 (memA T m ws lg :: L) w) :
    Calls Tryz.prog 184 #[aV b S g d x l i wv v, .pointer (some ⟨m, 0, none⟩), .int .i64 tgt] w fun e w' =>
      e = .returned (.bool (ws.getD (b + 4 + i) 0 == wv)) ∧ Own w0 F0 (memA T m (if ws.getD (b + 4 + i) 0 = wv then ws.set (b + 4 + i) (nxt wv tgt) else ws) (lg ++ [⟨3, (b : Int) + 4 + i, wv, nxt wv tgt, ws.getD (b + 4 + i) 0 == wv⟩]) :: L) w' := by
  have h1 := (h.new (aO b S g d x l i wv v)).swap
  have HC := fun L2 w h => Lib.hid (Cas_y (w0 := w0) (F0 := F0) (L := L2) (T := T) (m := m) (ws := ws) (lg := lg) (w := w) (b + 4 + i) ((b : Int) + 4 + i) wv (nxt wv tgt) (by omega) hl hg h)
  have HN := fun w => Lib.hid (Next_yes wv tgt t0 t1 l0 l1 w)
  generalize (ws.getD (b + 4 + i) 0 == wv) = q at HC ⊢
  generalize (if ws.getD (b + 4 + i) 0 = wv then ws.set (b + 4 + i) (nxt wv tgt) else ws) = ws' at HC ⊢
  have B0 : (0 : Int) ≤ b := by omega
  have B1 : (b : Int) ≤ 1000 := by omega
  have I0 : (0 : Int) ≤ i := by omega
  have I1 : (i : Int) ≤ 8 := by omega
  have HS := fun w => Lib.hid (cStripe_any b S i B0 (by omega) I0 (by omega) w)
  clear h hl hg t0 t1 l0 l1 hb hi
  unfold cV at HS
  unfold nxt at HC ⊢
  generalize sg (pmk ((pver wv + 1) % 4294967296) tgt) = n at HC HN ⊢
  unfold aV
  unfold aO at h1
  obtain ⟨c0, c1, c2, c3, c4, c5, c6, c7, c8, f⟩ := aCells h1.swap
  go_enter Tryz.func184, Tryz.ntmps184
  go_wp2_with fail
  refine (HN _).out.mono ?_
  rintro e w1 ⟨rfl, rfl⟩
  have hO := h1.drew
  clear h1
  go_wp2_with fail
  go_region_held3 (fun w' => w'.cell? ⟨w.heap.size, 0, none⟩ = some (.int .i64 b) ∧ w'.cell? ⟨w.heap.size, 1, none⟩ = some (.int .i64 S) ∧ w'.cell? ⟨w.heap.size, 5, none⟩ = some (.int .i64 l) ∧ w'.cell? ⟨w.heap.size, 6, none⟩ = some (.int .i64 i) ∧ w'.cell? ⟨w.heap.size, 7, none⟩ = some (.int .i64 wv)) (go_keep) (first
    | (go_at_call 181; refine (HS _).out.mono ?_; rintro e w2 ⟨rfl, hB⟩; have hO := Own.below (by with_reducible assumption) hB; obtain ⟨c0, c1, c2, c3, c4, c5, c6, c7, c8, f⟩ := aCells hO.swap)
    | (go_at_call 132; refine (HC _ _ (by with_reducible assumption)).out.mono ?_; rintro e w3 ⟨rfl, hO⟩; obtain ⟨c0, c1, c2, c3, c4, c5, c6, c7, c8, f⟩ := aCells hO.swap))
  all_goals
    go_wp2_with fail
    go_ret
    exact ⟨rfl, hO.under fun _ _ h => h.drop⟩
def lookK (g u : Int) : FuncId := if -g < u ∧ u < g then 182 else 183
theorem look_any (b i : Nat) (S g d x l wv v y u : Int) (hb : b ≤ 1000) (hi : i ≤ 8) (hl : b + 4 + i < ws.length) (hg : lg.length < 1000000) (hy : ws.getD (b + 4 + i) 0 = y) (hu : pval y + d = u) (l0 : -9223372036854775808 ≤ y) (l1 : y ≤ 9223372036854775807) (g0 : 1 ≤ g) (g1 : g ≤ 1048576) (d0 : -1048576 ≤ d) (d1 : d ≤ 1048576) (h : Own w0 F0 (memA T m ws lg :: L) w) :
    Calls Tryz.prog 179 #[aV b S g d x l i wv v, .pointer (some ⟨m, 0, none⟩)] w fun e w' =>
      e = .returned (.func (Fn.func (lookK g u)) #[aV b S g d x l i y u] #[]) ∧ Own w0 F0 (memA T m ws (lg ++ [⟨1, (b : Int) + 4 + i, y, 0, false⟩]) :: L) w' := by
  have h1 := Lib.hid ((h.new (aO b S g d x l i wv v)).swap)
  have HL := fun L2 w h => Lib.hid (Load_y (w0 := w0) (F0 := F0) (L := L2) (T := T) (m := m) (ws := ws) (lg := lg) (w := w) (b + 4 + i) ((b : Int) + 4 + i) y (by omega) hy hl hg h)
  have HV := fun w => Lib.hid (Value_any y l0 l1 w)
  have B0 : (0 : Int) ≤ b := by omega
  have B1 : (b : Int) ≤ 1000 := by omega
  have I0 : (0 : Int) ≤ i := by omega
  have I1 : (i : Int) ≤ 8 := by omega
  have hp := pval_bd y
  have HS := fun w => Lib.hid (cStripe_any b S i B0 (by omega) I0 (by omega) w)
  clear h hl hg hb hi hy l0 l1
  unfold cV at HS
  generalize pval y = py at HV hu hp
  have Hu := Lib.hid hu
  have u0 : -2148532224 ≤ u := by omega
  have u1 : u ≤ 2148532224 := by omega
  obtain ⟨K, hK⟩ : ∃ K, K = lookK g u := ⟨_, rfl⟩
  rw [← hK]
  have HK := Lib.hid hK
  clear hK
  unfold aV
  unfold aO at h1
  go_enter Tryz.func179, Tryz.ntmps179
  go_wp2_with fail
  refine (HS _).out.mono ?_
  rintro e w1 ⟨rfl, hb1⟩
  have HL1 := HL _ _ (h1.out.below hb1)
  generalize w.heap.size = k at HL1 ⊢
  clear h1 HL hb1 HS
  go_wp2_with fail
  refine HL1.out.mono ?_
  rintro e w2 ⟨rfl, hO⟩
  obtain ⟨c0, c1, c2, c3, c4, c5, c6, c7, c8, f⟩ := aCells hO.swap
  have h2 := Lib.hid (hO.swap.set 7 (.int .i64 y))
  clear HL1 hO
  go_wp2_with fail
  clear c0 c1 c2 c3 c4 c5 c6 c7 c8 f
  obtain ⟨c0, c1, c2, c3, c4, c5, c6, c7, c8, f⟩ := aCells (wv := y) h2.out
  generalize w2.setCell ⟨k, 7, none⟩ (.int .i64 y) = w3 at h2 c0 c1 c2 c3 c4 c5 c6 c7 c8 f ⊢
  have hO := h2.out.drew
  subst hu
  refine wp_region_still_tail 7 (by kernel_rfl) (by kernel_rfl) ?_
  simp only [List.take_succ_cons, List.take_zero, List.drop_succ_cons, List.drop_zero]
  change wpStill _ _ w3.drew _ _ _
  iterate 2 still_step
  still_call ((HV w3.drew).out.mono fun _ _ h => ⟨h.1, h.2.symm⟩)
  iterate 4 still_step
  refine wpStill_nil ?_
  change wpList _ _ _ _ _ w3.drew
  generalize w3.drew = w5 at hO ⊢
  clear c0 c1 c2 c3 c4 c5 c6 c7 c8 f h2
  obtain ⟨c0, c1, c2, c3, c4, c5, c6, c7, c8, f⟩ := aCells (wv := y) hO
  have h5 := Lib.hid (hO.set 8 (.int .i64 (py + d)))
  clear hO HV
  by_cases hg1 : -g < py + d
  · by_cases hg2 : py + d < g
    · obtain rfl : K = _ := HK.out.trans (if_pos ⟨hg1, hg2⟩)
      clear HK
      go_wp2_with fail
      go_ret
      exact ⟨rfl, h5.out.drop⟩
    · obtain rfl : K = _ := HK.out.trans (if_neg (fun h => hg2 h.2))
      clear HK
      have hd : decide (py + d < g) = false := by simp; omega
      clear hg2
      go_wp2_with fail
      go_ret
      exact ⟨rfl, h5.out.drop⟩
  · obtain rfl : K = _ := HK.out.trans (if_neg (fun h => hg1 h.1))
    clear HK
    have hd : decide (-g < py + d) = false := by simp; omega
    clear hg1
    go_wp2_with fail
    go_ret
    exact ⟨rfl, h5.out.drop⟩
end Go.Proofs.YtjfjjmlocgmicaaGreat
end
