/- Texts of elder layers, one behind the other: Add. -/
import Derived.Test.YtjohngpbggendaaGreatT15
import Derived.Deep.RegionHeld3
import Derived.StillTailTactics
section
/- Contracts of package add's inner calls: a counter's words, the swap, the raise, again and missed. -/
namespace Go.Proofs.YtjohngpbggendaaGreat
open Go.ChangeShapes Go.WideShapes Go.ChangeAt Go.RowKit Go.Shelf
set_option linter.unusedVariables false
set_option maxRecDepth 100000
variable {w0 w w' : World} {F0 : Nat → Prop} {L : List Asn} {T : TypeId} {m : Nat} {ws : List Int} {lg : List Acc}
def cV (b S : Int) : Value := .agg #[.int .i64 b, .int .i64 S]
def aV (b S g d x l i wv v : Int) : Value := .agg #[.int .i64 b, .int .i64 S, .int .i64 g, .int .i64 d, .int .i64 x, .int .i64 l, .int .i64 i, .int .i64 wv, .int .i64 v]
def aO (b S g d x l i wv v : Int) : Obj := .cells #[.int .i64 b, .int .i64 S, .int .i64 g, .int .i64 d, .int .i64 x, .int .i64 l, .int .i64 i, .int .i64 wv, .int .i64 v] 188 (0, 0)
theorem aCells {k : Nat} {b S g d x l i wv v : Int} (h : Own w0 F0 (blk k (aO b S g d x l i wv v) :: L) w) :
    w.cell? ⟨k, 0, none⟩ = some (.int .i64 b) ∧ w.cell? ⟨k, 1, none⟩ = some (.int .i64 S) ∧ w.cell? ⟨k, 2, none⟩ = some (.int .i64 g) ∧ w.cell? ⟨k, 3, none⟩ = some (.int .i64 d) ∧ w.cell? ⟨k, 4, none⟩ = some (.int .i64 x) ∧ w.cell? ⟨k, 5, none⟩ = some (.int .i64 l) ∧ w.cell? ⟨k, 6, none⟩ = some (.int .i64 i) ∧ w.cell? ⟨k, 7, none⟩ = some (.int .i64 wv) ∧ w.cell? ⟨k, 8, none⟩ = some (.int .i64 v) ∧ ∀ j, w.frozen? ⟨k, j, none⟩ = false :=
  ⟨h.cell (i := 0) rfl, h.cell (i := 1) rfl, h.cell (i := 2) rfl, h.cell (i := 3) rfl, h.cell (i := 4) rfl, h.cell (i := 5) rfl, h.cell (i := 6) rfl, h.cell (i := 7) rfl, h.cell (i := 8) rfl, fun j => h.unfrozen⟩
theorem cLive_any (b S : Int) (h0 : 0 ≤ b) (h1 : b ≤ 100000) (w : World) :
    Calls Tryz.prog 176 #[cV b S] w fun e w' => e = .returned (.int .i64 (b + 3)) ∧ Below w.heap.size w w' := by
  unfold cV
  go_enter Tryz.func176, Tryz.ntmps176
  go_wp2_with fail
  go_ret
  exact ⟨rfl, (Below.refl _ _).alloc (Nat.le_refl _) _⟩
theorem cBegun_any (b S : Int) (h0 : 0 ≤ b) (h1 : b ≤ 100000) (w : World) :
    Calls Tryz.prog 191 #[cV b S] w fun e w' => e = .returned (.int .i64 (b + 1)) ∧ Below w.heap.size w w' := by
  unfold cV
  go_enter Tryz.func191, Tryz.ntmps191
  go_wp2_with fail
  go_ret
  exact ⟨rfl, (Below.refl _ _).alloc (Nat.le_refl _) _⟩
theorem cDone_any (b S : Int) (h0 : 0 ≤ b) (h1 : b ≤ 100000) (w : World) :
    Calls Tryz.prog 202 #[cV b S] w fun e w' => e = .returned (.int .i64 (b + 2)) ∧ Below w.heap.size w w' := by
  unfold cV
  go_enter Tryz.func202, Tryz.ntmps202
  go_wp2_with fail
  go_ret
  exact ⟨rfl, (Below.refl _ _).alloc (Nat.le_refl _) _⟩
theorem cGlobal_any (b S : Int) (h0 : 0 ≤ b) (h1 : b ≤ 100000) (w : World) :
    Calls Tryz.prog 200 #[cV b S] w fun e w' => e = .returned (.int .i64 b) ∧ Below w.heap.size w w' := by
  unfold cV
  go_enter Tryz.func200, Tryz.ntmps200
  go_wp2_with fail
  go_ret
  exact ⟨rfl, (Below.refl _ _).alloc (Nat.le_refl _) _⟩
theorem cStripe_any (b S i : Int) (h0 : 0 ≤ b) (h1 : b ≤ 100000) (h2 : 0 ≤ i) (h3 : i ≤ 100000) (w : World) :
    Calls Tryz.prog 184 #[cV b S, .int .i64 i] w fun e w' => e = .returned (.int .i64 (b + 4 + i)) ∧ Below w.heap.size w w' := by
  unfold cV
  go_enter Tryz.func184, Tryz.ntmps184
  go_wp2_with fail
  go_ret
  exact ⟨rfl, (Below.refl _ _).alloc (Nat.le_refl _) _⟩
theorem Load_y (i : Nat) (j y : Int) (hj : j = (i : Int)) (hy : ws.getD i 0 = y) (hi : i < ws.length) (hl : lg.length < 1000000) (h : Own w0 F0 (memA T m ws lg :: L) w) :
    Calls Tryz.prog 175 #[.pointer (some ⟨m, 0, none⟩), .int .i64 j] w fun e w' =>
      e = .returned (.int .i64 y) ∧ Own w0 F0 (memA T m ws (lg ++ [⟨1, j, y, 0, false⟩]) :: L) w' := by
  subst hj hy; exact Load_any i hi hl h
theorem Add_y (i : Nat) (j d y : Int) (hj : j = (i : Int)) (hy : ws.getD i 0 = y) (hi : i < ws.length) (hl : lg.length < 1000000) (h : Own w0 F0 (memA T m ws lg :: L) w) :
    Calls Tryz.prog 173 #[.pointer (some ⟨m, 0, none⟩), .int .i64 j, .int .i64 d] w fun e w' =>
      e = .returned (.int .i64 (wrap64 (y + d))) ∧ Own w0 F0 (memA T m (ws.set i (wrap64 (y + d))) (lg ++ [⟨2, j, d, wrap64 (y + d), false⟩]) :: L) w' := by
  subst hj hy; exact Add_any i d hi hl h
theorem Cas_y (i : Nat) (j o x : Int) (hj : j = (i : Int)) (hi : i < ws.length) (hl : lg.length < 1000000) (h : Own w0 F0 (memA T m ws lg :: L) w) :
    Calls Tryz.prog 193 #[.pointer (some ⟨m, 0, none⟩), .int .i64 j, .int .i64 o, .int .i64 x] w fun e w' =>
      e = .returned (.bool (ws.getD i 0 == o)) ∧ Own w0 F0 (memA T m (if ws.getD i 0 = o then ws.set i x else ws) (lg ++ [⟨3, j, o, x, ws.getD i 0 == o⟩]) :: L) w' := by
  subst hj
  by_cases he : ws.getD i 0 = o
  · rw [if_pos he, beq_t he]; exact Cas_yes i o x hi hl he h
  · rw [if_neg he, beq_f he]; exact Cas_no i o x hi hl he h
theorem begin_any (b : Nat) (S g d x l i wv v y : Int) (hx0 : 0 ≤ x) (hx1 : x ≤ 4294967295) (hb : b ≤ 1000) (hl : b + 3 < ws.length) (hg : lg.length < 1000000) (hy : ws.getD (b + 3) 0 = y) (hy0 : 1 ≤ y) (hy1 : y ≤ 1048576) (h : Own w0 F0 (memA T m ws lg :: L) w) :
    Calls Tryz.prog 166 #[aV b S g d x l i wv v, .pointer (some ⟨m, 0, none⟩)] w fun e w' =>
      e = .returned (.func (Fn.func 178) #[aV b S g d x y (x % y) wv v] #[]) ∧ Own w0 F0 (memA T m ws (lg ++ [⟨1, (b : Int) + 3, y, 0, false⟩]) :: L) w' := by
  have h1 := Lib.hid ((h.new (aO b S g d x l i wv v)).swap)
  have HL := fun L2 w h => Lib.hid (Load_y (w0 := w0) (F0 := F0) (L := L2) (T := T) (m := m) (ws := ws) (lg := lg) (w := w) (b + 3) ((b : Int) + 3) y (by omega) hy hl hg h)
  clear h hl hg hy
  unfold aV
  unfold aO at h1
  have B0 : (0 : Int) ≤ b := by omega
  have B1 : (b : Int) ≤ 1000 := by omega
  go_enter Tryz.func166, Tryz.ntmps166
  go_wp2_with fail
  refine (cLive_any _ _ (by omega) (by omega) _).mono ?_
  rintro e w1 ⟨rfl, hb1⟩
  have HL1 := HL _ _ (h1.out.below hb1)
  generalize w.heap.size = k at HL1 ⊢
  clear h1 HL hb1
  go_wp2_with fail
  refine HL1.out.mono ?_
  rintro e w2 ⟨rfl, hO⟩
  obtain ⟨c0, c1, c2, c3, c4, c5, c6, c7, c8, f⟩ := aCells hO.swap
  have h2 := Lib.hid (hO.swap.set 5 (.int .i64 y))
  clear HL1 hO
  go_wp2_with fail
  refine (Pick_any _ _ (by omega) (by omega) (by omega) (by omega) _).mono ?_
  rintro e w3 ⟨rfl, rfl⟩
  have h3 := Lib.hid (h2.out.set 6 (.int .i64 (x % y)))
  go_wp2_with fail
  go_ret
  exact ⟨rfl, h3.out.drop⟩
theorem again_any (b S g d x l i wv v : Int) (l0 : -9223372036854775808 ≤ x) (l1 : x ≤ 9223372036854775807) (h : Own w0 F0 L w) :
    Calls Tryz.prog 195 #[aV b S g d x l i wv v] w fun e w' =>
      e = .returned (.func (Fn.func 166) #[aV b S g d (nx (dr x)) l i wv v] #[]) ∧ Own w0 F0 L w' := by
  have h1 := Lib.hid (h.new (aO b S g d x l i wv v))
  have HN := fun w => Lib.hid (Next_any x l0 l1 w)
  clear h l0 l1
  unfold aV
  unfold aO at h1
  go_enter Tryz.func195, Tryz.ntmps195
  generalize hk : w.heap.size = k at h1
  obtain ⟨c0, c1, c2, c3, c4, c5, c6, c7, c8, f⟩ := aCells h1.out
  go_wp2_with fail
  refine (HN _).out.mono ?_
  rintro e w1 ⟨rfl, hb1⟩
  have h2 := h1.out.below hb1
  clear c0 c1 c2 c3 c4 c5 c6 c7 c8 f
  obtain ⟨c0, c1, c2, c3, c4, c5, c6, c7, c8, f⟩ := aCells h2
  have h3 := Lib.hid (h2.set 4 (.int .i64 (nx (dr x))))
  clear h1 h2 HN hk hb1
  go_wp2_with fail
  go_ret
  exact ⟨rfl, h3.out.drop⟩
theorem missed_yes (b S g d x l i wv v : Int) (hl : l < S) (h : Own w0 F0 L w) :
    Calls Tryz.prog 189 #[aV b S g d x l i wv v] w fun e w' =>
      e = .returned (.func (Fn.func 194) #[aV b S g d x l i wv v] #[]) ∧ Own w0 F0 L w' := by
  have h1 := Lib.hid (h.new (aO b S g d x l i wv v))
  clear h
  unfold aV
  unfold aO at h1
  go_enter Tryz.func189, Tryz.ntmps189
  go_wp2_with fail
  go_ret
  exact ⟨rfl, h1.out.drop⟩
theorem missed_no (b S g d x l i wv v : Int) (hl : S ≤ l) (l0 : -9223372036854775808 ≤ x) (l1 : x ≤ 9223372036854775807) (h : Own w0 F0 L w) :
    Calls Tryz.prog 189 #[aV b S g d x l i wv v] w fun e w' =>
      e = .returned (.func (Fn.func 166) #[aV b S g d (nx (dr x)) l i wv v] #[]) ∧ Own w0 F0 L w' := by
  have h1 := Lib.hid (h.new (aO b S g d x l i wv v))
  have HA := Lib.hid (again_any b S g d x l i wv v l0 l1 h1.out.drop)
  clear h l0 l1
  unfold aO at h1
  unfold aO at HA
  have hd : decide (l < S) = false := by simp; omega
  unfold aV
  unfold aV at HA
  go_enter Tryz.func189, Tryz.ntmps189
  go_wp2_with fail
  refine HA.out.mono ?_
  rintro e w1 ⟨rfl, hO⟩
  go_wp2_with fail
  go_ret
  exact ⟨rfl, hO⟩
theorem swap_any (b i : Nat) (S g d x l wv v tgt : Int) (hb : b ≤ 1000) (hi : i ≤ 8) (hl : b + 4 + i < ws.length) (hg : lg.length < 1000000) (t0 : -2147483648 ≤ tgt) (t1 : tgt ≤ 2147483647) (l0 : -9223372036854775808 ≤ wv) (l1 : wv ≤ 9223372036854775807) (h : Own w0 F0 (memA T m ws lg :: L) w) :
    Calls Tryz.prog 188 #[aV b S g d x l i wv v, .pointer (some ⟨m, 0, none⟩), .int .i64 tgt] w fun e w' =>
      e = .returned (.bool (ws.getD (b + 4 + i) 0 == wv)) ∧ Own w0 F0 (memA T m (if ws.getD (b + 4 + i) 0 = wv then ws.set (b + 4 + i) (nxt wv tgt) else ws) (lg ++ [⟨3, (b : Int) + 4 + i, wv, nxt wv tgt, ws.getD (b + 4 + i) 0 == wv⟩]) :: L) w' := by
  have h1 := (h.new (aO b S g d x l i wv v)).swap
  have HC := fun L2 w h => Lib.hid (Cas_y (w0 := w0) (F0 := F0) (L := L2) (T := T) (m := m) (ws := ws) (lg := lg) (w := w) (b + 4 + i) ((b : Int) + 4 + i) wv (nxt wv tgt) (by omega) hl hg h)
  have HN := fun w => Lib.hid (Next_yes wv tgt t0 t1 l0 l1 w)
  generalize (ws.getD (b + 4 + i) 0 == wv) = q at HC ⊢
  generalize (if ws.getD (b + 4 + i) 0 = wv then ws.set (b + 4 + i) (nxt wv tgt) else ws) = ws' at HC ⊢
  have B0 : (0 : Int) ≤ b := by omega
  have B1 : (b : Int) ≤ 1000 := by omega
  have I0 : (0 : Int) ≤ i := by omega
  have I1 : (i : Int) ≤ 8 := by omega
  have HS := fun w => Lib.hid (cStripe_any b S i B0 (by omega) I0 (by omega) w)
  clear h hl hg t0 t1 l0 l1 hb hi
  unfold cV at HS
  unfold nxt at HC ⊢
  generalize sg (pmk ((pver wv + 1) % 4294967296) tgt) = n at HC HN ⊢
  unfold aV
  unfold aO at h1
  obtain ⟨c0, c1, c2, c3, c4, c5, c6, c7, c8, f⟩ := aCells h1.swap
  go_enter Tryz.func188, Tryz.ntmps188
  go_wp2_with fail
  refine (HN _).out.mono ?_
  rintro e w1 ⟨rfl, rfl⟩
  have hO := h1.drew
  clear h1
  go_wp2_with fail
  go_region_held3 (fun w' => w'.cell? ⟨w.heap.size, 0, none⟩ = some (.int .i64 b) ∧ w'.cell? ⟨w.heap.size, 1, none⟩ = some (.int .i64 S) ∧ w'.cell? ⟨w.heap.size, 5, none⟩ = some (.int .i64 l) ∧ w'.cell? ⟨w.heap.size, 6, none⟩ = some (.int .i64 i) ∧ w'.cell? ⟨w.heap.size, 7, none⟩ = some (.int .i64 wv)) (go_keep) (first
    | (go_at_call 184; refine (HS _).out.mono ?_; rintro e w2 ⟨rfl, hB⟩; have hO := Own.below (by with_reducible assumption) hB; obtain ⟨c0, c1, c2, c3, c4, c5, c6, c7, c8, f⟩ := aCells hO.swap)
    | (go_at_call 193; refine (HC _ _ (by with_reducible assumption)).out.mono ?_; rintro e w3 ⟨rfl, hO⟩; obtain ⟨c0, c1, c2, c3, c4, c5, c6, c7, c8, f⟩ := aCells hO.swap))
  all_goals
    go_wp2_with fail
    go_ret
    exact ⟨rfl, hO.under fun _ _ h => h.drop⟩
def lookK (g u : Int) : FuncId := if -g < u ∧ u < g then 185 else 186
theorem look_any (b i : Nat) (S g d x l wv v y u : Int) (hb : b ≤ 1000) (hi : i ≤ 8) (hl : b + 4 + i < ws.length) (hg : lg.length < 1000000) (hy : ws.getD (b + 4 + i) 0 = y) (hu : pval y + d = u) (l0 : -9223372036854775808 ≤ y) (l1 : y ≤ 9223372036854775807) (g0 : 1 ≤ g) (g1 : g ≤ 1048576) (d0 : -1048576 ≤ d) (d1 : d ≤ 1048576) (h : Own w0 F0 (memA T m ws lg :: L) w) :
    Calls Tryz.prog 178 #[aV b S g d x l i wv v, .pointer (some ⟨m, 0, none⟩)] w fun e w' =>
      e = .returned (.func (Fn.func (lookK g u)) #[aV b S g d x l i y u] #[]) ∧ Own w0 F0 (memA T m ws (lg ++ [⟨1, (b : Int) + 4 + i, y, 0, false⟩]) :: L) w' := by
  have h1 := Lib.hid ((h.new (aO b S g d x l i wv v)).swap)
  have HL := fun L2 w h => Lib.hid (Load_y (w0 := w0) (F0 := F0) (L := L2) (T := T) (m := m) (ws := ws) (lg := lg) (w := w) (b + 4 + i) ((b : Int) + 4 + i) y (by omega) hy hl hg h)
  have HV := fun w => Lib.hid (Value_any y l0 l1 w)
  have B0 : (0 : Int) ≤ b := by omega
  have B1 : (b : Int) ≤ 1000 := by omega
  have I0 : (0 : Int) ≤ i := by omega
  have I1 : (i : Int) ≤ 8 := by omega
  have hp := pval_bd y
  have HS := fun w => Lib.hid (cStripe_any b S i B0 (by omega) I0 (by omega) w)
  clear h hl hg hb hi hy l0 l1
  unfold cV at HS
  generalize pval y = py at HV hu hp
  have Hu := Lib.hid hu
  have u0 : -2148532224 ≤ u := by omega
  have u1 : u ≤ 2148532224 := by omega
  obtain ⟨K, hK⟩ : ∃ K, K = lookK g u := ⟨_, rfl⟩
  rw [← hK]
  have HK := Lib.hid hK
  clear hK
  unfold aV
  unfold aO at h1
  go_enter Tryz.func178, Tryz.ntmps178
  go_wp2_with fail
  refine (HS _).out.mono ?_
  rintro e w1 ⟨rfl, hb1⟩
  have HL1 := HL _ _ (h1.out.below hb1)
  generalize w.heap.size = k at HL1 ⊢
  clear h1 HL hb1 HS
  go_wp2_with fail
  refine HL1.out.mono ?_
  rintro e w2 ⟨rfl, hO⟩
  obtain ⟨c0, c1, c2, c3, c4, c5, c6, c7, c8, f⟩ := aCells hO.swap
  have h2 := Lib.hid (hO.swap.set 7 (.int .i64 y))
  clear HL1 hO
  go_wp2_with fail
  clear c0 c1 c2 c3 c4 c5 c6 c7 c8 f
  obtain ⟨c0, c1, c2, c3, c4, c5, c6, c7, c8, f⟩ := aCells (wv := y) h2.out
  generalize w2.setCell ⟨k, 7, none⟩ (.int .i64 y) = w3 at h2 c0 c1 c2 c3 c4 c5 c6 c7 c8 f ⊢
  have hO := h2.out.drew
  subst hu
  refine wp_region_still_tail 7 (by kernel_rfl) (by kernel_rfl) ?_
  simp only [List.take_succ_cons, List.take_zero, List.drop_succ_cons, List.drop_zero]
  change wpStill _ _ w3.drew _ _ _
  iterate 2 still_step
  still_call ((HV w3.drew).out.mono fun _ _ h => ⟨h.1, h.2.symm⟩)
  iterate 4 still_step
  refine wpStill_nil ?_
  change wpList _ _ _ _ _ w3.drew
  generalize w3.drew = w5 at hO ⊢
  clear c0 c1 c2 c3 c4 c5 c6 c7 c8 f h2
  obtain ⟨c0, c1, c2, c3, c4, c5, c6, c7, c8, f⟩ := aCells (wv := y) hO
  have h5 := Lib.hid (hO.set 8 (.int .i64 (py + d)))
  clear hO HV
  by_cases hg1 : -g < py + d
  · by_cases hg2 : py + d < g
    · obtain rfl : K = _ := HK.out.trans (if_pos ⟨hg1, hg2⟩)
      clear HK
      go_wp2_with fail
      go_ret
      exact ⟨rfl, h5.out.drop⟩
    · obtain rfl : K = _ := HK.out.trans (if_neg (fun h => hg2 h.2))
      clear HK
      have hd : decide (py + d < g) = false := by simp; omega
      clear hg2
      go_wp2_with fail
      go_ret
      exact ⟨rfl, h5.out.drop⟩
  · obtain rfl : K = _ := HK.out.trans (if_neg (fun h => hg1 h.1))
    clear HK
    have hd : decide (-g < py + d) = false := by simp; omega
    clear hg1
    go_wp2_with fail
    go_ret
    exact ⟨rfl, h5.out.drop⟩
end Go.Proofs.YtjohngpbggendaaGreat
end
