/- Texts of elder layers, one behind the other: Add, Add2. -/
import Derived.Test.YtdglnpfnjinbkaaGreatC8
import Derived.Deep.RegionHeld3
import Derived.StillTailTactics
namespace Go.Proofs.YtdglnpfnjinbkaaGreat
open Go.ChangeShapes Go.WideShapes Go.ChangeAt Go.RowKit Go.Shelf
open Lib (hid)
set_option linter.unusedVariables false
set_option linter.unusedSimpArgs false
set_option maxRecDepth 100000
set_option maxHeartbeats 4000000
section
variable {w0 w w' : World} {F0 : Nat -> Prop} {L : List Asn} {T : TypeId} {m : Nat} {ws : List Int} {lg : List Acc}
def cV (b S : Int) : Value := .agg #[.int .i64 b, .int .i64 S]
def aV (b S g d x l i wv v : Int) : Value := .agg #[.int .i64 b, .int .i64 S, .int .i64 g, .int .i64 d, .int .i64 x, .int .i64 l, .int .i64 i, .int .i64 wv, .int .i64 v]
def aO (b S g d x l i wv v : Int) : Obj := .cells #[.int .i64 b, .int .i64 S, .int .i64 g, .int .i64 d, .int .i64 x, .int .i64 l, .int .i64 i, .int .i64 wv, .int .i64 v] 247 (0, 0)
theorem zZ4 {k : Nat} {b S g d x l i wv v : Int} (h : Own w0 F0 (blk k (aO b S g d x l i wv v) :: L) w) :
 w.cell? ⟨k, 0, none⟩ = some (.int .i64 b) /\ w.cell? ⟨k, 1, none⟩ = some (.int .i64 S) /\ w.cell? ⟨k, 2, none⟩ = some (.int .i64 g) /\ w.cell? ⟨k, 3, none⟩ = some (.int .i64 d) /\ w.cell? ⟨k, 4, none⟩ = some (.int .i64 x) /\ w.cell? ⟨k, 5, none⟩ = some (.int .i64 l) /\ w.cell? ⟨k, 6, none⟩ = some (.int .i64 i) /\ w.cell? ⟨k, 7, none⟩ = some (.int .i64 wv) /\ w.cell? ⟨k, 8, none⟩ = some (.int .i64 v) /\ ∀ j, w.frozen? ⟨k, j, none⟩ = false :=
 ⟨h.cell (i := 0) rfl, h.cell (i := 1) rfl, h.cell (i := 2) rfl, h.cell (i := 3) rfl, h.cell (i := 4) rfl, h.cell (i := 5) rfl, h.cell (i := 6) rfl, h.cell (i := 7) rfl, h.cell (i := 8) rfl, fun j => h.unfrozen⟩
theorem cLive_any (b S : Int) (h0 : 0 <= b) (h1 : b <= 100000) (w : World) :
 Calls Tryz.prog 241 #[cV b S] w fun e w' => e = .returned (.int .i64 (b + 3)) /\ Below w.heap.size w w' := by
 unfold cV
 go_enter Tryz.func241, Tryz.ntmps241
 go_wp2_with fail
 go_ret
 exact ⟨rfl, (Below.refl _ _).alloc (Nat.le_refl _) _⟩
theorem cBegun_any (b S : Int) (h0 : 0 <= b) (h1 : b <= 100000) (w : World) :
 Calls Tryz.prog 258 #[cV b S] w fun e w' => e = .returned (.int .i64 (b + 1)) /\ Below w.heap.size w w' := by
 unfold cV
 go_enter Tryz.func258, Tryz.ntmps258
 go_wp2_with fail
 go_ret
 exact ⟨rfl, (Below.refl _ _).alloc (Nat.le_refl _) _⟩
theorem cDone_any (b S : Int) (h0 : 0 <= b) (h1 : b <= 100000) (w : World) :
 Calls Tryz.prog 268 #[cV b S] w fun e w' => e = .returned (.int .i64 (b + 2)) /\ Below w.heap.size w w' := by
 unfold cV
 go_enter Tryz.func268, Tryz.ntmps268
 go_wp2_with fail
 go_ret
 exact ⟨rfl, (Below.refl _ _).alloc (Nat.le_refl _) _⟩
theorem cGlobal_any (b S : Int) (h0 : 0 <= b) (h1 : b <= 100000) (w : World) :
 Calls Tryz.prog 266 #[cV b S] w fun e w' => e = .returned (.int .i64 b) /\ Below w.heap.size w w' := by
 unfold cV
 go_enter Tryz.func266, Tryz.ntmps266
 go_wp2_with fail
 go_ret
 exact ⟨rfl, (Below.refl _ _).alloc (Nat.le_refl _) _⟩
theorem zT7 (b S i : Int) (h0 : 0 <= b) (h1 : b <= 100000) (h2 : 0 <= i) (h3 : i <= 100000) (w : World) :
 Calls Tryz.prog 249 #[cV b S, .int .i64 i] w fun e w' => e = .returned (.int .i64 (b + 4 + i)) /\ Below w.heap.size w w' := by
 unfold cV
 go_enter Tryz.func249, Tryz.ntmps249
 go_wp2_with fail
 go_ret
 exact ⟨rfl, (Below.refl _ _).alloc (Nat.le_refl _) _⟩
theorem Load_y (i : Nat) (j y : Int) (hj : j = (i : Int)) (hy : ws.getD i 0 = y) (hi : i < ws.length) (hl : lg.length < 1000000) (h : Own w0 F0 (memA T m ws lg :: L) w) :
 Calls Tryz.prog 167 #[.pointer (some ⟨m, 0, none⟩), .int .i64 j] w fun e w' =>
  e = .returned (.int .i64 y) /\ Own w0 F0 (memA T m ws (lg ++ [⟨1, j, y, 0, false⟩]) :: L) w' := by
 subst hj hy; exact zY9 i hi hl h
theorem Add_y (i : Nat) (j d y : Int) (hj : j = (i : Int)) (hy : ws.getD i 0 = y) (hi : i < ws.length) (hl : lg.length < 1000000) (h : Own w0 F0 (memA T m ws lg :: L) w) :
 Calls Tryz.prog 179 #[.pointer (some ⟨m, 0, none⟩), .int .i64 j, .int .i64 d] w fun e w' =>
  e = .returned (.int .i64 (wrap64 (y + d))) /\ Own w0 F0 (memA T m (ws.set i (wrap64 (y + d))) (lg ++ [⟨2, j, d, wrap64 (y + d), false⟩]) :: L) w' := by
 subst hj hy; exact zQ2 i d hi hl h
theorem Cas_y (i : Nat) (j o x : Int) (hj : j = (i : Int)) (hi : i < ws.length) (hl : lg.length < 1000000) (h : Own w0 F0 (memA T m ws lg :: L) w) :
 Calls Tryz.prog 219 #[.pointer (some ⟨m, 0, none⟩), .int .i64 j, .int .i64 o, .int .i64 x] w fun e w' =>
  e = .returned (.bool (ws.getD i 0 == o)) /\ Own w0 F0 (memA T m (if ws.getD i 0 = o then ws.set i x else ws) (lg ++ [⟨3, j, o, x, ws.getD i 0 == o⟩]) :: L) w' := by
 subst hj
 by_cases he : ws.getD i 0 = o
 ·rw [if_pos he, beq_t he]; exact zSe i o x hi hl he h
 ·rw [if_neg he, beq_f he]; exact Cas_no i o x hi hl he h
theorem begin_any (b : Nat) (S g d x l i wv v y : Int) (hx0 : 0 <= x) (hx1 : x <= 4294967295) (hb : b <= 1000) (hl : b + 3 < ws.length) (hg : lg.length < 1000000) (hy : ws.getD (b + 3) 0 = y) (hy0 : 1 <= y) (hy1 : y <= 1048576) (h : Own w0 F0 (memA T m ws lg :: L) w) :
 Calls Tryz.prog 232 #[aV b S g d x l i wv v, .pointer (some ⟨m, 0, none⟩)] w fun e w' =>
  e = .returned (.func (Fn.func 243) #[aV b S g d x y (x % y) wv v] #[]) /\ Own w0 F0 (memA T m ws (lg ++ [⟨1, (b : Int) + 3, y, 0, false⟩]) :: L) w' := by
 have h1 := hid ((h.new (aO b S g d x l i wv v)).swap)
 have HL := fun L2 w h => hid (Load_y (w0 := w0) (F0 := F0) (L := L2) (T := T) (m := m) (ws := ws) (lg := lg) (w := w) (b + 3) ((b : Int) + 3) y (by omega) hy hl hg h)
 clear h hl hg hy
 unfold aV
 unfold aO at h1
 have B0 : (0 : Int) <= b := by omega
 have B1 : (b : Int) <= 1000 := by omega
 go_enter Tryz.func232, Tryz.ntmps232
 go_wp2_with fail
 refine (cLive_any _ _ (by omega) (by omega) _).mono ?_
 rintro e w1 ⟨rfl, hb1⟩
 have HL1 := HL _ _ (h1.out.below hb1)
 generalize w.heap.size = k at HL1 ⊢
 clear h1 HL hb1
 go_wp2_with fail
 refine HL1.out.mono ?_
 rintro e w2 ⟨rfl, hO⟩
 obtain ⟨c0, c1, c2, c3, c4, c5, c6, c7, c8, f⟩ := zZ4 hO.swap
 have h2 := hid (hO.swap.set 5 (.int .i64 y))
 clear HL1 hO
 go_wp2_with fail
 refine (Pick_any _ _ (by omega) (by omega) (by omega) (by omega) _).mono ?_
 rintro e w3 ⟨rfl, rfl⟩
 have h3 := hid (h2.out.set 6 (.int .i64 (x % y)))
 go_wp2_with fail
 go_ret
 exact ⟨rfl, h3.out.drop⟩
theorem again_any (b S g d x l i wv v : Int) (l0 : -9223372036854775808 <= x) (l1 : x <= 9223372036854775807) (h : Own w0 F0 L w) :
 Calls Tryz.prog 262 #[aV b S g d x l i wv v] w fun e w' =>
  e = .returned (.func (Fn.func 232) #[aV b S g d (nx (dr x)) l i wv v] #[]) /\ Own w0 F0 L w' := by
 have h1 := hid (h.new (aO b S g d x l i wv v))
 have HN := fun w => hid (Next_any x l0 l1 w)
 clear h l0 l1
 unfold aV
 unfold aO at h1
 go_enter Tryz.func262, Tryz.ntmps262
 generalize hk : w.heap.size = k at h1
 obtain ⟨c0, c1, c2, c3, c4, c5, c6, c7, c8, f⟩ := zZ4 h1.out
 go_wp2_with fail
 refine (HN _).out.mono ?_
 rintro e w1 ⟨rfl, hb1⟩
 have h2 := h1.out.below hb1
 clear c0 c1 c2 c3 c4 c5 c6 c7 c8 f
 obtain ⟨c0, c1, c2, c3, c4, c5, c6, c7, c8, f⟩ := zZ4 h2
 have h3 := hid (h2.set 4 (.int .i64 (nx (dr x))))
 clear h1 h2 HN hk hb1
 go_wp2_with fail
 go_ret
 exact ⟨rfl, h3.out.drop⟩
theorem missed_yes (b S g d x l i wv v : Int) (hl : l < S) (h : Own w0 F0 L w) :
 Calls Tryz.prog 256 #[aV b S g d x l i wv v] w fun e w' =>
  e = .returned (.func (Fn.func 261) #[aV b S g d x l i wv v] #[]) /\ Own w0 F0 L w' := by
 have h1 := hid (h.new (aO b S g d x l i wv v))
 clear h
 unfold aV
 unfold aO at h1
 go_enter Tryz.func256, Tryz.ntmps256
 go_wp2_with fail
 go_ret
 exact ⟨rfl, h1.out.drop⟩
theorem missed_no (b S g d x l i wv v : Int) (hl : S <= l) (l0 : -9223372036854775808 <= x) (l1 : x <= 9223372036854775807) (h : Own w0 F0 L w) :
 Calls Tryz.prog 256 #[aV b S g d x l i wv v] w fun e w' =>
  e = .returned (.func (Fn.func 232) #[aV b S g d (nx (dr x)) l i wv v] #[]) /\ Own w0 F0 L w' := by
 have h1 := hid (h.new (aO b S g d x l i wv v))
 have HA := hid (again_any b S g d x l i wv v l0 l1 h1.out.drop)
 clear h l0 l1
 unfold aO at h1
 unfold aO at HA
 have hd : decide (l < S) = false := by simp; omega
 unfold aV
 unfold aV at HA
 go_enter Tryz.func256, Tryz.ntmps256
 go_wp2_with fail
 refine HA.out.mono ?_
 rintro e w1 ⟨rfl, hO⟩
 go_wp2_with fail
 go_ret
 exact ⟨rfl, hO⟩
theorem zTa (b i : Nat) (S g d x l wv v tgt : Int) (hb : b <= 1000) (hi : i <= 8) (hl : b + 4 + i < ws.length) (hg : lg.length < 1000000) (t0 : -2147483648 <= tgt) (t1 : tgt <= 2147483647) (l0 : -9223372036854775808 <= wv) (l1 : wv <= 9223372036854775807) (h : Own w0 F0 (memA T m ws lg :: L) w) :
 Calls Tryz.prog 255 #[aV b S g d x l i wv v, .pointer (some ⟨m, 0, none⟩), .int .i64 tgt] w fun e w' =>
  e = .returned (.bool (ws.getD (b + 4 + i) 0 == wv)) /\ Own w0 F0 (memA T m (if ws.getD (b + 4 + i) 0 = wv then ws.set (b + 4 + i) (nxt wv tgt) else ws) (lg ++ [⟨3, (b : Int) + 4 + i, wv, nxt wv tgt, ws.getD (b + 4 + i) 0 == wv⟩]) :: L) w' := by
 have h1 := (h.new (aO b S g d x l i wv v)).swap
 have HC := fun L2 w h => hid (Cas_y (w0 := w0) (F0 := F0) (L := L2) (T := T) (m := m) (ws := ws) (lg := lg) (w := w) (b + 4 + i) ((b : Int) + 4 + i) wv (nxt wv tgt) (by omega) hl hg h)
 have HN := fun w => hid (Next_yes wv tgt t0 t1 l0 l1 w)
 generalize (ws.getD (b + 4 + i) 0 == wv) = q at HC ⊢
 generalize (if ws.getD (b + 4 + i) 0 = wv then ws.set (b + 4 + i) (nxt wv tgt) else ws) = ws' at HC ⊢
 have B0 : (0 : Int) <= b := by omega
 have B1 : (b : Int) <= 1000 := by omega
 have I0 : (0 : Int) <= i := by omega
 have I1 : (i : Int) <= 8 := by omega
 have HS := fun w => hid (zT7 b S i B0 (by omega) I0 (by omega) w)
 clear h hl hg t0 t1 l0 l1 hb hi
 unfold cV at HS
 unfold nxt at HC ⊢
 generalize sg (pmk ((pver wv + 1) % 4294967296) tgt) = n at HC HN ⊢
 unfold aV
 unfold aO at h1
 obtain ⟨c0, c1, c2, c3, c4, c5, c6, c7, c8, f⟩ := zZ4 h1.swap
 go_enter Tryz.func255, Tryz.ntmps255
 go_wp2_with fail
 refine (HN _).out.mono ?_
 rintro e w1 ⟨rfl, rfl⟩
 have hO := h1.drew
 clear h1
 go_wp2_with fail
 go_region_held3 (fun w' => w'.cell? ⟨w.heap.size, 0, none⟩ = some (.int .i64 b) /\ w'.cell? ⟨w.heap.size, 1, none⟩ = some (.int .i64 S) /\ w'.cell? ⟨w.heap.size, 5, none⟩ = some (.int .i64 l) /\ w'.cell? ⟨w.heap.size, 6, none⟩ = some (.int .i64 i) /\ w'.cell? ⟨w.heap.size, 7, none⟩ = some (.int .i64 wv)) (go_keep) (first
  | (go_at_call 249; refine (HS _).out.mono ?_; rintro e w2 ⟨rfl, hB⟩; have hO := Own.below (by with_reducible assumption) hB; obtain ⟨c0, c1, c2, c3, c4, c5, c6, c7, c8, f⟩ := zZ4 hO.swap)
  | (go_at_call 219; refine (HC _ _ (by with_reducible assumption)).out.mono ?_; rintro e w3 ⟨rfl, hO⟩; obtain ⟨c0, c1, c2, c3, c4, c5, c6, c7, c8, f⟩ := zZ4 hO.swap))
 all_goals
  go_wp2_with fail
  go_ret
  exact ⟨rfl, hO.under fun _ _ h => h.drop⟩
def lookK (g u : Int) : FuncId := if -g < u /\ u < g then 250 else 251
theorem look_any (b i : Nat) (S g d x l wv v y u : Int) (hb : b <= 1000) (hi : i <= 8) (hl : b + 4 + i < ws.length) (hg : lg.length < 1000000) (hy : ws.getD (b + 4 + i) 0 = y) (hu : pval y + d = u) (l0 : -9223372036854775808 <= y) (l1 : y <= 9223372036854775807) (g0 : 1 <= g) (g1 : g <= 1048576) (d0 : -1048576 <= d) (d1 : d <= 1048576) (h : Own w0 F0 (memA T m ws lg :: L) w) :
 Calls Tryz.prog 243 #[aV b S g d x l i wv v, .pointer (some ⟨m, 0, none⟩)] w fun e w' =>
  e = .returned (.func (Fn.func (lookK g u)) #[aV b S g d x l i y u] #[]) /\ Own w0 F0 (memA T m ws (lg ++ [⟨1, (b : Int) + 4 + i, y, 0, false⟩]) :: L) w' := by
 have h1 := hid ((h.new (aO b S g d x l i wv v)).swap)
 have HL := fun L2 w h => hid (Load_y (w0 := w0) (F0 := F0) (L := L2) (T := T) (m := m) (ws := ws) (lg := lg) (w := w) (b + 4 + i) ((b : Int) + 4 + i) y (by omega) hy hl hg h)
 have HV := fun w => hid (zUi y l0 l1 w)
 have B0 : (0 : Int) <= b := by omega
 have B1 : (b : Int) <= 1000 := by omega
 have I0 : (0 : Int) <= i := by omega
 have I1 : (i : Int) <= 8 := by omega
 have hp := zQe y
 have HS := fun w => hid (zT7 b S i B0 (by omega) I0 (by omega) w)
 clear h hl hg hb hi hy l0 l1
 unfold cV at HS
 generalize pval y = py at HV hu hp
 have Hu := hid hu
 have u0 : -2148532224 <= u := by omega
 have u1 : u <= 2148532224 := by omega
 obtain ⟨K, hK⟩ : ∃ K, K = lookK g u := ⟨_, rfl⟩
 rw [<- hK]
 have HK := hid hK
 clear hK
 unfold aV
 unfold aO at h1
 go_enter Tryz.func243, Tryz.ntmps243
 go_wp2_with fail
 refine (HS _).out.mono ?_
 rintro e w1 ⟨rfl, hb1⟩
 have HL1 := HL _ _ (h1.out.below hb1)
 generalize w.heap.size = k at HL1 ⊢
 clear h1 HL hb1 HS
 go_wp2_with fail
 refine HL1.out.mono ?_
 rintro e w2 ⟨rfl, hO⟩
 obtain ⟨c0, c1, c2, c3, c4, c5, c6, c7, c8, f⟩ := zZ4 hO.swap
 have h2 := hid (hO.swap.set 7 (.int .i64 y))
 clear HL1 hO
 go_wp2_with fail
 clear c0 c1 c2 c3 c4 c5 c6 c7 c8 f
 obtain ⟨c0, c1, c2, c3, c4, c5, c6, c7, c8, f⟩ := zZ4 (wv := y) h2.out
 generalize w2.setCell ⟨k, 7, none⟩ (.int .i64 y) = w3 at h2 c0 c1 c2 c3 c4 c5 c6 c7 c8 f ⊢
 have hO := h2.out.drew
 subst hu
 refine wp_region_still_tail 7 (by kernel_rfl) (by kernel_rfl) ?_
 simp only [List.take_succ_cons, List.take_zero, List.drop_succ_cons, List.drop_zero]
 change wpStill _ _ w3.drew _ _ _
 iterate 2 still_step
 still_call ((HV w3.drew).out.mono fun _ _ h => ⟨h.1, h.2.symm⟩)
 iterate 4 still_step
 refine wpStill_nil ?_
 change wpList _ _ _ _ _ w3.drew
 generalize w3.drew = w5 at hO ⊢
 clear c0 c1 c2 c3 c4 c5 c6 c7 c8 f h2
 obtain ⟨c0, c1, c2, c3, c4, c5, c6, c7, c8, f⟩ := zZ4 (wv := y) hO
 have h5 := hid (hO.set 8 (.int .i64 (py + d)))
 clear hO HV
 by_cases hg1 : -g < py + d
 ·by_cases hg2 : py + d < g
  ·obtain rfl : K = _ := HK.out.trans (if_pos ⟨hg1, hg2⟩)
   clear HK
   go_wp2_with fail
   go_ret
   exact ⟨rfl, h5.out.drop⟩
  ·obtain rfl : K = _ := HK.out.trans (if_neg (fun h => hg2 h.2))
   clear HK
   have hd : decide (py + d < g) = false := by simp; omega
   clear hg2
   go_wp2_with fail
   go_ret
   exact ⟨rfl, h5.out.drop⟩
 ·obtain rfl : K = _ := HK.out.trans (if_neg (fun h => hg1 h.1))
  clear HK
  have hd : decide (-g < py + d) = false := by simp; omega
  clear hg1
  go_wp2_with fail
  go_ret
  exact ⟨rfl, h5.out.drop⟩
end
section
variable {w0 w w' : World} {F0 : Nat -> Prop} {L : List Asn} {T : TypeId} {m : Nat} {ws : List Int} {lg : List Acc}
def misV (b S g d x l i wv v : Int) : Value := if l < S then .func (Fn.func 261) #[aV b S g d x l i wv v] #[] else .func (Fn.func 232) #[aV b S g d (nx (dr x)) l i wv v] #[]
theorem zRg (b S g d x l i wv v : Int) (l0 : -9223372036854775808 <= x) (l1 : x <= 9223372036854775807) (h : Own w0 F0 L w) :
 Calls Tryz.prog 256 #[aV b S g d x l i wv v] w fun e w' => e = .returned (misV b S g d x l i wv v) /\ Own w0 F0 L w' := by
 unfold misV
 by_cases hl : l < S
 ·rw [if_pos hl]; exact missed_yes b S g d x l i wv v hl h
 ·rw [if_neg hl]; exact missed_no b S g d x l i wv v (by omega) l0 l1 h
theorem zSs (b : Nat) (S g d x l i wv v z y : Int) (hb : b <= 1000) (hl : b + 1 < ws.length) (hg : lg.length < 1000000) (hy : ws.getD (b + 1) 0 = y) (h : Own w0 F0 (memA T m ws lg :: L) w) :
 Calls Tryz.prog 257 #[aV b S g d x l i wv v, .pointer (some ⟨m, 0, none⟩), .func (Fn.func 258) #[] #[], .int .i64 z] w fun e w' =>
  e = .returned (.tuple #[]) /\ Own w0 F0 (memA T m (ws.set (b + 1) (wrap64 (y + z))) (lg ++ [⟨2, (b : Int) + 1, z, wrap64 (y + z), false⟩]) :: L) w' := by
 have h1 := (h.new (aO b S g d x l i wv v)).swap
 have HA := fun L2 w h => hid (Add_y (w0 := w0) (F0 := F0) (L := L2) (T := T) (m := m) (ws := ws) (lg := lg) (w := w) (b + 1) ((b : Int) + 1) z y (by omega) hy hl hg h)
 have B0 : (0 : Int) <= b := by omega
 have B1 : (b : Int) <= 1000 := by omega
 have HS := fun w => hid (cBegun_any b S B0 (by omega) w)
 clear h hl hg hy hb
 generalize wrap64 (y + z) = n at HA ⊢
 unfold cV at HS
 unfold aV
 unfold aO at h1
 obtain ⟨c0, c1, c2, c3, c4, c5, c6, c7, c8, f⟩ := zZ4 h1.swap
 have H1 := hid h1
 clear h1
 go_enter Tryz.func257, Tryz.ntmps257
 go_wp2_with fail
 refine (HS _).out.mono ?_
 rintro e w1 ⟨rfl, hb1⟩
 have HL1 := HA _ _ (H1.out.below hb1)
 clear c0 c1 c2 c3 c4 c5 c6 c7 c8 f HS HA hb1 H1
 go_wp2_with fail
 refine HL1.out.mono ?_
 rintro e w2 ⟨rfl, hO⟩
 clear HL1
 go_wp2_with fail
 go_end0
 exact ⟨rfl, hO.under fun _ _ h => h.drop⟩
theorem zV5 (b : Nat) (S g d x l i wv v z y : Int) (hb : b <= 1000) (hl : b + 2 < ws.length) (hg : lg.length < 1000000) (hy : ws.getD (b + 2) 0 = y) (h : Own w0 F0 (memA T m ws lg :: L) w) :
 Calls Tryz.prog 257 #[aV b S g d x l i wv v, .pointer (some ⟨m, 0, none⟩), .func (Fn.func 268) #[] #[], .int .i64 z] w fun e w' =>
  e = .returned (.tuple #[]) /\ Own w0 F0 (memA T m (ws.set (b + 2) (wrap64 (y + z))) (lg ++ [⟨2, (b : Int) + 2, z, wrap64 (y + z), false⟩]) :: L) w' := by
 have h1 := (h.new (aO b S g d x l i wv v)).swap
 have HA := fun L2 w h => hid (Add_y (w0 := w0) (F0 := F0) (L := L2) (T := T) (m := m) (ws := ws) (lg := lg) (w := w) (b + 2) ((b : Int) + 2) z y (by omega) hy hl hg h)
 have B0 : (0 : Int) <= b := by omega
 have B1 : (b : Int) <= 1000 := by omega
 have HS := fun w => hid (cDone_any b S B0 (by omega) w)
 clear h hl hg hy hb
 generalize wrap64 (y + z) = n at HA ⊢
 unfold cV at HS
 unfold aV
 unfold aO at h1
 obtain ⟨c0, c1, c2, c3, c4, c5, c6, c7, c8, f⟩ := zZ4 h1.swap
 have H1 := hid h1
 clear h1
 go_enter Tryz.func257, Tryz.ntmps257
 go_wp2_with fail
 refine (HS _).out.mono ?_
 rintro e w1 ⟨rfl, hb1⟩
 have HL1 := HA _ _ (H1.out.below hb1)
 clear c0 c1 c2 c3 c4 c5 c6 c7 c8 f HS HA hb1 H1
 go_wp2_with fail
 refine HL1.out.mono ?_
 rintro e w2 ⟨rfl, hO⟩
 clear HL1
 go_wp2_with fail
 go_end0
 exact ⟨rfl, hO.under fun _ _ h => h.drop⟩
theorem zTt (b : Nat) (S g d x l i wv v z y : Int) (hb : b <= 1000) (hl : b < ws.length) (hg : lg.length < 1000000) (hy : ws.getD b 0 = y) (h : Own w0 F0 (memA T m ws lg :: L) w) :
 Calls Tryz.prog 257 #[aV b S g d x l i wv v, .pointer (some ⟨m, 0, none⟩), .func (Fn.func 266) #[] #[], .int .i64 z] w fun e w' =>
  e = .returned (.tuple #[]) /\ Own w0 F0 (memA T m (ws.set b (wrap64 (y + z))) (lg ++ [⟨2, (b : Int), z, wrap64 (y + z), false⟩]) :: L) w' := by
 have h1 := (h.new (aO b S g d x l i wv v)).swap
 have HA := fun L2 w h => hid (Add_y (w0 := w0) (F0 := F0) (L := L2) (T := T) (m := m) (ws := ws) (lg := lg) (w := w) b ((b : Int)) z y (by omega) hy hl hg h)
 have B0 : (0 : Int) <= b := by omega
 have B1 : (b : Int) <= 1000 := by omega
 have HS := fun w => hid (cGlobal_any b S B0 (by omega) w)
 clear h hl hg hy hb
 generalize wrap64 (y + z) = n at HA ⊢
 unfold cV at HS
 unfold aV
 unfold aO at h1
 obtain ⟨c0, c1, c2, c3, c4, c5, c6, c7, c8, f⟩ := zZ4 h1.swap
 have H1 := hid h1
 clear h1
 go_enter Tryz.func257, Tryz.ntmps257
 go_wp2_with fail
 refine (HS _).out.mono ?_
 rintro e w1 ⟨rfl, hb1⟩
 have HL1 := HA _ _ (H1.out.below hb1)
 clear c0 c1 c2 c3 c4 c5 c6 c7 c8 f HS HA hb1 H1
 go_wp2_with fail
 refine HL1.out.mono ?_
 rintro e w2 ⟨rfl, hO⟩
 clear HL1
 go_wp2_with fail
 go_end0
 exact ⟨rfl, hO.under fun _ _ h => h.drop⟩
theorem keep_yes (b i : Nat) (S g d x l wv v : Int) (hb : b <= 1000) (hi : i <= 8) (hl : b + 4 + i < ws.length) (hg : lg.length < 1000000) (v0 : -9223372036854775808 <= wv) (v1 : wv <= 9223372036854775807) (t0 : -2147483648 <= v) (t1 : v <= 2147483647) (he : ws.getD (b + 4 + i) 0 = wv) (h : Own w0 F0 (memA T m ws lg :: L) w) :
 Calls Tryz.prog 250 #[aV b S g d x l i wv v, .pointer (some ⟨m, 0, none⟩)] w fun e w' => e = .returned .nilFunc /\ Own w0 F0 (memA T m (ws.set (b + 4 + i) (nxt wv v)) (lg ++ [⟨3, (b : Int) + 4 + i, wv, nxt wv v, true⟩]) :: L) w' := by
 have h1 := (h.new (aO b S g d x l i wv v)).swap
 have h2 := zTa b i S g d x l wv v v hb hi hl hg t0 t1 v0 v1 h1
 rw [if_pos he, beq_t he] at h2
 have H1 := hid h2
 clear h2 h hl hg
 unfold aV
 unfold aO at h1
 unfold aV at H1
 obtain ⟨c0, c1, c2, c3, c4, c5, c6, c7, c8, f⟩ := zZ4 h1.swap
 clear h1
 go_enter Tryz.func250, Tryz.ntmps250
 go_wp2_with fail
 refine H1.out.mono ?_
 rintro e w1 ⟨rfl, hO⟩
 clear H1 c0 c1 c2 c3 c4 c5 c6 c7 c8 f
 go_wp2_with fail
 go_ret
 exact ⟨rfl, hO.under fun _ _ h => h.drop⟩
theorem keep_no (b i : Nat) (S g d x l wv v : Int) (hb : b <= 1000) (hi : i <= 8) (l0 : -9223372036854775808 <= x) (l1 : x <= 9223372036854775807) (hl : b + 4 + i < ws.length) (hg : lg.length < 1000000) (v0 : -9223372036854775808 <= wv) (v1 : wv <= 9223372036854775807) (t0 : -2147483648 <= v) (t1 : v <= 2147483647) (he : ws.getD (b + 4 + i) 0 ≠ wv) (h : Own w0 F0 (memA T m ws lg :: L) w) :
 Calls Tryz.prog 250 #[aV b S g d x l i wv v, .pointer (some ⟨m, 0, none⟩)] w fun e w' => e = .returned (misV b S g d x l i wv v) /\ Own w0 F0 (memA T m ws (lg ++ [⟨3, (b : Int) + 4 + i, wv, nxt wv v, false⟩]) :: L) w' := by
 have h1 := (h.new (aO b S g d x l i wv v)).swap
 have h2 := zTa b i S g d x l wv v v hb hi hl hg t0 t1 v0 v1 h1
 rw [if_neg he, beq_f he] at h2
 have H1 := hid h2
 clear h2 h hl hg
 unfold misV
 generalize hmv : (if l < S then (Value.func (Fn.func 261) #[aV b S g d x l i wv v] #[]) else (Value.func (Fn.func 232) #[aV b S g d (nx (dr x)) l i wv v] #[])) = mv
 have Hmv := hid hmv
 clear hmv
 unfold aV
 unfold aO at h1
 unfold aV at H1
 obtain ⟨c0, c1, c2, c3, c4, c5, c6, c7, c8, f⟩ := zZ4 h1.swap
 clear h1
 go_enter Tryz.func250, Tryz.ntmps250
 go_wp2_with fail
 refine H1.out.mono ?_
 rintro e w1 ⟨rfl, hO⟩
 clear H1 c0 c1 c2 c3 c4 c5 c6 c7 c8 f
 have HM := hid (zRg b S g d x l i wv v l0 l1 hO)
 unfold misV at HM
 rw [Hmv.out] at HM
 unfold aV at HM
 obtain ⟨c0, c1, c2, c3, c4, c5, c6, c7, c8, f⟩ := zZ4 hO.swap
 clear hO
 go_wp2_with fail
 refine HM.out.mono ?_
 rintro e w2 ⟨rfl, hO⟩
 clear HM c0 c1 c2 c3 c4 c5 c6 c7 c8 f
 go_wp2_with fail
 go_ret
 exact ⟨rfl, hO.under fun _ _ h => h.drop⟩
theorem leave_any (b i : Nat) (S g d x l wv v : Int) (hb : b <= 1000) (hl : b + 1 < ws.length) (hg : lg.length < 1000000) (h : Own w0 F0 (memA T m ws lg :: L) w) :
 Calls Tryz.prog 251 #[aV b S g d x l i wv v, .pointer (some ⟨m, 0, none⟩)] w fun e w' => e = .returned (.func (Fn.func 259) #[aV b S g d x l i wv v] #[]) /\ Own w0 F0 (memA T m (ws.set (b + 1) (wrap64 (ws.getD (b + 1) 0 + 1))) (lg ++ [⟨2, (b : Int) + 1, 1, wrap64 (ws.getD (b + 1) 0 + 1), false⟩]) :: L) w' := by
 have h1 := (h.new (aO b S g d x l i wv v)).swap
 have H1 := hid (zSs b S g d x l i wv v 1 _ hb hl hg rfl h1)
 generalize wrap64 (ws.getD (b + 1) 0 + 1) = n at H1 ⊢
 clear h hl hg
 unfold aV
 unfold aO at h1
 unfold aV at H1
 obtain ⟨c0, c1, c2, c3, c4, c5, c6, c7, c8, f⟩ := zZ4 h1.swap
 clear h1
 go_enter Tryz.func251, Tryz.ntmps251
 go_wp2_with fail
 refine H1.out.mono ?_
 rintro e w1 ⟨rfl, hO⟩
 clear H1 c0 c1 c2 c3 c4 c5 c6 c7 c8 f
 obtain ⟨c0, c1, c2, c3, c4, c5, c6, c7, c8, f⟩ := zZ4 hO.swap
 go_wp2_with fail
 go_ret
 exact ⟨rfl, hO.under fun _ _ h => h.drop⟩
theorem empty_yes (b i : Nat) (S g d x l wv v : Int) (hb : b <= 1000) (hi : i <= 8) (hl : b + 4 + i < ws.length) (hg : lg.length < 1000000) (v0 : -9223372036854775808 <= wv) (v1 : wv <= 9223372036854775807) (he : ws.getD (b + 4 + i) 0 = wv) (h : Own w0 F0 (memA T m ws lg :: L) w) :
 Calls Tryz.prog 259 #[aV b S g d x l i wv v, .pointer (some ⟨m, 0, none⟩)] w fun e w' => e = .returned (.func (Fn.func 263) #[aV b S g d x l i wv v] #[]) /\ Own w0 F0 (memA T m (ws.set (b + 4 + i) (nxt wv 0)) (lg ++ [⟨3, (b : Int) + 4 + i, wv, nxt wv 0, true⟩]) :: L) w' := by
 have h1 := (h.new (aO b S g d x l i wv v)).swap
 have h2 := zTa b i S g d x l wv v 0 hb hi hl hg (by decide) (by decide) v0 v1 h1
 rw [if_pos he, beq_t he] at h2
 have H1 := hid h2
 clear h2 h hl hg
 unfold aV
 unfold aO at h1
 unfold aV at H1
 obtain ⟨c0, c1, c2, c3, c4, c5, c6, c7, c8, f⟩ := zZ4 h1.swap
 clear h1
 go_enter Tryz.func259, Tryz.ntmps259
 go_wp2_with fail
 refine H1.out.mono ?_
 rintro e w1 ⟨rfl, hO⟩
 clear H1 c0 c1 c2 c3 c4 c5 c6 c7 c8 f
 obtain ⟨c0, c1, c2, c3, c4, c5, c6, c7, c8, f⟩ := zZ4 hO.swap
 go_wp2_with fail
 go_ret
 exact ⟨rfl, hO.under fun _ _ h => h.drop⟩
theorem empty_no (b i : Nat) (S g d x l wv v : Int) (hb : b <= 1000) (hi : i <= 8) (hl : b + 4 + i < ws.length) (hg : lg.length < 1000000) (v0 : -9223372036854775808 <= wv) (v1 : wv <= 9223372036854775807) (he : ws.getD (b + 4 + i) 0 ≠ wv) (h : Own w0 F0 (memA T m ws lg :: L) w) :
 Calls Tryz.prog 259 #[aV b S g d x l i wv v, .pointer (some ⟨m, 0, none⟩)] w fun e w' => e = .returned (.func (Fn.func 264) #[aV b S g d x l i wv v] #[]) /\ Own w0 F0 (memA T m ws (lg ++ [⟨3, (b : Int) + 4 + i, wv, nxt wv 0, false⟩]) :: L) w' := by
 have h1 := (h.new (aO b S g d x l i wv v)).swap
 have h2 := zTa b i S g d x l wv v 0 hb hi hl hg (by decide) (by decide) v0 v1 h1
 rw [if_neg he, beq_f he] at h2
 have H1 := hid h2
 clear h2 h hl hg
 unfold aV
 unfold aO at h1
 unfold aV at H1
 obtain ⟨c0, c1, c2, c3, c4, c5, c6, c7, c8, f⟩ := zZ4 h1.swap
 clear h1
 go_enter Tryz.func259, Tryz.ntmps259
 go_wp2_with fail
 refine H1.out.mono ?_
 rintro e w1 ⟨rfl, hO⟩
 clear H1 c0 c1 c2 c3 c4 c5 c6 c7 c8 f
 obtain ⟨c0, c1, c2, c3, c4, c5, c6, c7, c8, f⟩ := zZ4 hO.swap
 go_wp2_with fail
 go_ret
 exact ⟨rfl, hO.under fun _ _ h => h.drop⟩
theorem bring_any (b i : Nat) (S g d x l wv v : Int) (hb : b <= 1000) (hl : b < ws.length) (hg : lg.length < 1000000) (h : Own w0 F0 (memA T m ws lg :: L) w) :
 Calls Tryz.prog 263 #[aV b S g d x l i wv v, .pointer (some ⟨m, 0, none⟩)] w fun e w' => e = .returned (.func (Fn.func 267) #[aV b S g d x l i wv v] #[]) /\ Own w0 F0 (memA T m (ws.set b (wrap64 (ws.getD b 0 + v))) (lg ++ [⟨2, (b : Int), v, wrap64 (ws.getD b 0 + v), false⟩]) :: L) w' := by
 have h1 := (h.new (aO b S g d x l i wv v)).swap
 have H1 := hid (zTt b S g d x l i wv v v _ hb hl hg rfl h1)
 generalize wrap64 (ws.getD b 0 + v) = n at H1 ⊢
 clear h hl hg
 unfold aV
 unfold aO at h1
 unfold aV at H1
 obtain ⟨c0, c1, c2, c3, c4, c5, c6, c7, c8, f⟩ := zZ4 h1.swap
 clear h1
 go_enter Tryz.func263, Tryz.ntmps263
 go_wp2_with fail
 refine H1.out.mono ?_
 rintro e w1 ⟨rfl, hO⟩
 clear H1 c0 c1 c2 c3 c4 c5 c6 c7 c8 f
 obtain ⟨c0, c1, c2, c3, c4, c5, c6, c7, c8, f⟩ := zZ4 hO.swap
 go_wp2_with fail
 go_ret
 exact ⟨rfl, hO.under fun _ _ h => h.drop⟩
theorem end_any (b i : Nat) (S g d x l wv v : Int) (hb : b <= 1000) (hl : b + 2 < ws.length) (hg : lg.length < 1000000) (h : Own w0 F0 (memA T m ws lg :: L) w) :
 Calls Tryz.prog 267 #[aV b S g d x l i wv v, .pointer (some ⟨m, 0, none⟩)] w fun e w' => e = .returned .nilFunc /\ Own w0 F0 (memA T m (ws.set (b + 2) (wrap64 (ws.getD (b + 2) 0 + 1))) (lg ++ [⟨2, (b : Int) + 2, 1, wrap64 (ws.getD (b + 2) 0 + 1), false⟩]) :: L) w' := by
 have h1 := (h.new (aO b S g d x l i wv v)).swap
 have H1 := hid (zV5 b S g d x l i wv v 1 _ hb hl hg rfl h1)
 generalize wrap64 (ws.getD (b + 2) 0 + 1) = n at H1 ⊢
 clear h hl hg
 unfold aV
 unfold aO at h1
 unfold aV at H1
 obtain ⟨c0, c1, c2, c3, c4, c5, c6, c7, c8, f⟩ := zZ4 h1.swap
 clear h1
 go_enter Tryz.func267, Tryz.ntmps267
 go_wp2_with fail
 refine H1.out.mono ?_
 rintro e w1 ⟨rfl, hO⟩
 clear H1 c0 c1 c2 c3 c4 c5 c6 c7 c8 f
 go_wp2_with fail
 go_ret
 exact ⟨rfl, hO.under fun _ _ h => h.drop⟩
theorem zU6 (b i : Nat) (S g d x l wv v : Int) (hb : b <= 1000) (l0 : -9223372036854775808 <= x) (l1 : x <= 9223372036854775807) (hl : b + 2 < ws.length) (hg : lg.length < 1000000) (h : Own w0 F0 (memA T m ws lg :: L) w) :
 Calls Tryz.prog 264 #[aV b S g d x l i wv v, .pointer (some ⟨m, 0, none⟩)] w fun e w' => e = .returned (misV b S g d x l i wv v) /\ Own w0 F0 (memA T m (ws.set (b + 2) (wrap64 (ws.getD (b + 2) 0 + 1))) (lg ++ [⟨2, (b : Int) + 2, 1, wrap64 (ws.getD (b + 2) 0 + 1), false⟩]) :: L) w' := by
 have h1 := (h.new (aO b S g d x l i wv v)).swap
 have H1 := hid (zV5 b S g d x l i wv v 1 _ hb hl hg rfl h1)
 generalize wrap64 (ws.getD (b + 2) 0 + 1) = n at H1 ⊢
 clear h hl hg
 unfold misV
 generalize hmv : (if l < S then (Value.func (Fn.func 261) #[aV b S g d x l i wv v] #[]) else (Value.func (Fn.func 232) #[aV b S g d (nx (dr x)) l i wv v] #[])) = mv
 have Hmv := hid hmv
 clear hmv
 unfold aV
 unfold aO at h1
 unfold aV at H1
 obtain ⟨c0, c1, c2, c3, c4, c5, c6, c7, c8, f⟩ := zZ4 h1.swap
 clear h1
 go_enter Tryz.func264, Tryz.ntmps264
 go_wp2_with fail
 refine H1.out.mono ?_
 rintro e w1 ⟨rfl, hO⟩
 clear H1 c0 c1 c2 c3 c4 c5 c6 c7 c8 f
 have HM := hid (zRg b S g d x l i wv v l0 l1 hO)
 unfold misV at HM
 rw [Hmv.out] at HM
 unfold aV at HM
 obtain ⟨c0, c1, c2, c3, c4, c5, c6, c7, c8, f⟩ := zZ4 hO.swap
 clear hO
 go_wp2_with fail
 refine HM.out.mono ?_
 rintro e w2 ⟨rfl, hO⟩
 clear HM c0 c1 c2 c3 c4 c5 c6 c7 c8 f
 go_wp2_with fail
 go_ret
 exact ⟨rfl, hO.under fun _ _ h => h.drop⟩
theorem widen_any (b i : Nat) (S g d x l wv v : Int) (hb : b <= 1000) (l0 : -9223372036854775808 <= x) (l1 : x <= 9223372036854775807) (hi : i <= 8) (hl : b + 3 < ws.length) (hg : lg.length < 1000000) (m0 : 0 <= l) (m1 : l <= 8) (h : Own w0 F0 (memA T m ws lg :: L) w) :
 Calls Tryz.prog 261 #[aV b S g d x l i wv v, .pointer (some ⟨m, 0, none⟩)] w fun e w' => e = .returned (.func (Fn.func 232) #[aV b S g d (nx (dr x)) l i wv v] #[]) /\ Own w0 F0 (memA T m (if ws.getD (b + 3) 0 = l then ws.set (b + 3) (2 * l) else ws) (lg ++ [⟨3, (b : Int) + 3, l, 2 * l, ws.getD (b + 3) 0 == l⟩]) :: L) w' := by
 have h1 := (h.new (aO b S g d x l i wv v)).swap
 have e2 : (2 : Int) * l = IntKind.i64.wrap (2 * l) := (IntWalk.i64_in _ (by omega)).symm
 rw [e2]
 have HC := fun L2 w h => hid (Cas_y (w0 := w0) (F0 := F0) (L := L2) (T := T) (m := m) (ws := ws) (lg := lg) (w := w) (b + 3) ((b : Int) + 3) l (IntKind.i64.wrap (2 * l)) (by omega) hl hg h)
 generalize (ws.getD (b + 3) 0 == l) = q at HC ⊢
 generalize (if ws.getD (b + 3) 0 = l then ws.set (b + 3) (IntKind.i64.wrap (2 * l)) else ws) = ws' at HC ⊢
 clear e2
 have B0 : (0 : Int) <= b := by omega
 have B1 : (b : Int) <= 1000 := by omega
 have HS := fun w => hid (cLive_any b S B0 (by omega) w)
 have HA := fun L2 w h => hid (again_any (w0 := w0) (F0 := F0) (L := L2) (w := w) b S g d x l i wv v l0 l1 h)
 clear h hl hg hb hi l0 l1
 unfold cV at HS
 unfold aV at HA
 unfold aV
 unfold aO at h1
 have hO := h1.drew
 obtain ⟨c0, c1, c2, c3, c4, c5, c6, c7, c8, f⟩ := zZ4 hO.swap
 clear h1
 go_enter Tryz.func261, Tryz.ntmps261
 go_wp2_with fail
 go_region_held3 (fun w' => w'.cell? ⟨w.heap.size, 0, none⟩ = some (.int .i64 b) /\ w'.cell? ⟨w.heap.size, 1, none⟩ = some (.int .i64 S) /\ w'.cell? ⟨w.heap.size, 5, none⟩ = some (.int .i64 l)) (go_keep) (first
  | (go_at_call 241; refine (HS _).out.mono ?_; rintro e w2 ⟨rfl, hB⟩; have hO := Own.below (by with_reducible assumption) hB; obtain ⟨c0, c1, c2, c3, c4, c5, c6, c7, c8, f⟩ := zZ4 hO.swap)
  | (go_at_call 219; refine (HC _ _ (by with_reducible assumption)).out.mono ?_; rintro e w3 ⟨rfl, hO⟩; obtain ⟨c0, c1, c2, c3, c4, c5, c6, c7, c8, f⟩ := zZ4 hO.swap))
 all_goals
  have H2 := HA _ _ hO
  clear HA
  go_wp2_with fail
  refine H2.out.mono ?_
  rintro e w5 ⟨rfl, hO⟩
  clear H2 c0 c1 c2 c3 c4 c5 c6 c7 c8 f
  go_wp2_with fail
  go_ret
  exact ⟨rfl, hO.under fun _ _ h => h.drop⟩
end
end Go.Proofs.YtdglnpfnjinbkaaGreat
