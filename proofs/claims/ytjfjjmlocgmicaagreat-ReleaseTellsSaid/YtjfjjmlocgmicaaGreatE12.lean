/- Texts of elder layers, one behind the other: Add2, AddMath2. -/
import Derived.Test.YtjfjjmlocgmicaaGreatE11
section
namespace Go.Proofs.YtjfjjmlocgmicaaGreat
open Go.ChangeShapes Go.WideShapes Go.ChangeAt Go.RowKit Go.Shelf
set_option linter.unusedVariables false
set_option maxRecDepth 100000
variable {w0 w w' : World} {F0 : Nat → Prop} {L : List Asn} {T : TypeId} {m : Nat} {ws : List Int} {lg : List Acc}
def misV (b S g d x l i wv v : Int) : Value := if l < S then .func (Fn.func 189) #[aV b S g d x l i wv v] #[] else .func (Fn.func 170) #[aV b S g d (nx (dr x)) l i wv v] #[]
theorem missed_any (b S g d x l i wv v : Int) (l0 : -9223372036854775808 ≤ x) (l1 : x ≤ 9223372036854775807) (h : Own w0 F0 L w) :
    Calls Tryz.prog 185 #[aV b S g d x l i wv v] w fun e w' => e = .returned (misV b S g d x l i wv v) ∧ Own w0 F0 L w' := by
  unfold misV
  by_cases hl : l < S
  · rw [if_pos hl]; exact missed_yes b S g d x l i wv v hl h
  · rw [if_neg hl]; exact missed_no b S g d x l i wv v (by omega) l0 l1 h
theorem raiseBegun_any (b : Nat) (S g d x l i wv v z y : Int) (hb : b ≤ 1000) (hl : b + 1 < ws.length) (hg : lg.length < 1000000) (hy : ws.getD (b + 1) 0 = y) (h : Own w0 F0 (memA T m ws lg :: L) w) :
    Calls Tryz.prog 186 #[aV b S g d x l i wv v, .pointer (some ⟨m, 0, none⟩), .func (Fn.func 187) #[] #[], .int .i64 z] w fun e w' =>
      e = .returned (.tuple #[]) ∧ Own w0 F0 (memA T m (ws.set (b + 1) (wrap64 (y + z))) (lg ++ [⟨2, (b : Int) + 1, z, wrap64 (y + z), false⟩]) :: L) w' := by
  have h1 := (h.new (aO b S g d x l i wv v)).swap
  have HA := fun L2 w h => Lib.hid (Add_y (w0 := w0) (F0 := F0) (L := L2) (T := T) (m := m) (ws := ws) (lg := lg) (w := w) (b + 1) ((b : Int) + 1) z y (by omega) hy hl hg h)
  have B0 : (0 : Int) ≤ b := by omega
  have B1 : (b : Int) ≤ 1000 := by omega
  have HS := fun w => Lib.hid (cBegun_any b S B0 (by omega) w)
  clear h hl hg hy hb
  generalize wrap64 (y + z) = n at HA ⊢
  unfold cV at HS
  unfold aV
  unfold aO at h1
  obtain ⟨c0, c1, c2, c3, c4, c5, c6, c7, c8, f⟩ := aCells h1.swap
  have H1 := Lib.hid h1
  clear h1
  go_enter Tryz.func186, Tryz.ntmps186
  go_wp2_with fail
  refine (HS _).out.mono ?_
  rintro e w1 ⟨rfl, hb1⟩
  have HL1 := HA _ _ (H1.out.below hb1)
  clear c0 c1 c2 c3 c4 c5 c6 c7 c8 f HS HA hb1 H1
  go_wp2_with fail
  refine HL1.out.mono ?_
  rintro e w2 ⟨rfl, hO⟩
  clear HL1
  go_wp2_with fail
  go_end0
  exact ⟨rfl, hO.under fun _ _ h => h.drop⟩
theorem raiseDone_any (b : Nat) (S g d x l i wv v z y : Int) (hb : b ≤ 1000) (hl : b + 2 < ws.length) (hg : lg.length < 1000000) (hy : ws.getD (b + 2) 0 = y) (h : Own w0 F0 (memA T m ws lg :: L) w) :
    Calls Tryz.prog 186 #[aV b S g d x l i wv v, .pointer (some ⟨m, 0, none⟩), .func (Fn.func 196) #[] #[], .int .i64 z] w fun e w' =>
      e = .returned (.tuple #[]) ∧ Own w0 F0 (memA T m (ws.set (b + 2) (wrap64 (y + z))) (lg ++ [⟨2, (b : Int) + 2, z, wrap64 (y + z), false⟩]) :: L) w' := by
  have h1 := (h.new (aO b S g d x l i wv v)).swap
  have HA := fun L2 w h => Lib.hid (Add_y (w0 := w0) (F0 := F0) (L := L2) (T := T) (m := m) (ws := ws) (lg := lg) (w := w) (b + 2) ((b : Int) + 2) z y (by omega) hy hl hg h)
  have B0 : (0 : Int) ≤ b := by omega
  have B1 : (b : Int) ≤ 1000 := by omega
  have HS := fun w => Lib.hid (cDone_any b S B0 (by omega) w)
  clear h hl hg hy hb
  generalize wrap64 (y + z) = n at HA ⊢
  unfold cV at HS
  unfold aV
  unfold aO at h1
  obtain ⟨c0, c1, c2, c3, c4, c5, c6, c7, c8, f⟩ := aCells h1.swap
  have H1 := Lib.hid h1
  clear h1
  go_enter Tryz.func186, Tryz.ntmps186
  go_wp2_with fail
  refine (HS _).out.mono ?_
  rintro e w1 ⟨rfl, hb1⟩
  have HL1 := HA _ _ (H1.out.below hb1)
  clear c0 c1 c2 c3 c4 c5 c6 c7 c8 f HS HA hb1 H1
  go_wp2_with fail
  refine HL1.out.mono ?_
  rintro e w2 ⟨rfl, hO⟩
  clear HL1
  go_wp2_with fail
  go_end0
  exact ⟨rfl, hO.under fun _ _ h => h.drop⟩
theorem raiseGlobal_any (b : Nat) (S g d x l i wv v z y : Int) (hb : b ≤ 1000) (hl : b < ws.length) (hg : lg.length < 1000000) (hy : ws.getD b 0 = y) (h : Own w0 F0 (memA T m ws lg :: L) w) :
    Calls Tryz.prog 186 #[aV b S g d x l i wv v, .pointer (some ⟨m, 0, none⟩), .func (Fn.func 194) #[] #[], .int .i64 z] w fun e w' =>
      e = .returned (.tuple #[]) ∧ Own w0 F0 (memA T m (ws.set b (wrap64 (y + z))) (lg ++ [⟨2, (b : Int), z, wrap64 (y + z), false⟩]) :: L) w' := by
  have h1 := (h.new (aO b S g d x l i wv v)).swap
  have HA := fun L2 w h => Lib.hid (Add_y (w0 := w0) (F0 := F0) (L := L2) (T := T) (m := m) (ws := ws) (lg := lg) (w := w) b ((b : Int)) z y (by omega) hy hl hg h)
  have B0 : (0 : Int) ≤ b := by omega
  have B1 : (b : Int) ≤ 1000 := by omega
  have HS := fun w => Lib.hid (cGlobal_any b S B0 (by omega) w)
  clear h hl hg hy hb
  generalize wrap64 (y + z) = n at HA ⊢
  unfold cV at HS
  unfold aV
  unfold aO at h1
  obtain ⟨c0, c1, c2, c3, c4, c5, c6, c7, c8, f⟩ := aCells h1.swap
  have H1 := Lib.hid h1
  clear h1
  go_enter Tryz.func186, Tryz.ntmps186
  go_wp2_with fail
  refine (HS _).out.mono ?_
  rintro e w1 ⟨rfl, hb1⟩
  have HL1 := HA _ _ (H1.out.below hb1)
  clear c0 c1 c2 c3 c4 c5 c6 c7 c8 f HS HA hb1 H1
  go_wp2_with fail
  refine HL1.out.mono ?_
  rintro e w2 ⟨rfl, hO⟩
  clear HL1
  go_wp2_with fail
  go_end0
  exact ⟨rfl, hO.under fun _ _ h => h.drop⟩
theorem keep_yes (b i : Nat) (S g d x l wv v : Int) (hb : b ≤ 1000) (hi : i ≤ 8) (hl : b + 4 + i < ws.length) (hg : lg.length < 1000000) (v0 : -9223372036854775808 ≤ wv) (v1 : wv ≤ 9223372036854775807) (t0 : -2147483648 ≤ v) (t1 : v ≤ 2147483647) (he : ws.getD (b + 4 + i) 0 = wv) (h : Own w0 F0 (memA T m ws lg :: L) w) :
    Calls Tryz.prog 182 #[aV b S g d x l i wv v, .pointer (some ⟨m, 0, none⟩)] w fun e w' => e = .returned .nilFunc ∧ Own w0 F0 (memA T m (ws.set (b + 4 + i) (nxt wv v)) (lg ++ [⟨3, (b : Int) + 4 + i, wv, nxt wv v, true⟩]) :: L) w' := by
  have h1 := (h.new (aO b S g d x l i wv v)).swap
  have h2 := swap_any b i S g d x l wv v v hb hi hl hg t0 t1 v0 v1 h1
  rw [if_pos he, beq_t he] at h2
  have H1 := Lib.hid h2
  clear h2 h hl hg
  unfold aV
  unfold aO at h1
  unfold aV at H1
  obtain ⟨c0, c1, c2, c3, c4, c5, c6, c7, c8, f⟩ := aCells h1.swap
  clear h1
  go_enter Tryz.func182, Tryz.ntmps182
  go_wp2_with fail
  refine H1.out.mono ?_
  rintro e w1 ⟨rfl, hO⟩
  clear H1 c0 c1 c2 c3 c4 c5 c6 c7 c8 f
  go_wp2_with fail
  go_ret
  exact ⟨rfl, hO.under fun _ _ h => h.drop⟩
theorem keep_no (b i : Nat) (S g d x l wv v : Int) (hb : b ≤ 1000) (hi : i ≤ 8) (l0 : -9223372036854775808 ≤ x) (l1 : x ≤ 9223372036854775807) (hl : b + 4 + i < ws.length) (hg : lg.length < 1000000) (v0 : -9223372036854775808 ≤ wv) (v1 : wv ≤ 9223372036854775807) (t0 : -2147483648 ≤ v) (t1 : v ≤ 2147483647) (he : ws.getD (b + 4 + i) 0 ≠ wv) (h : Own w0 F0 (memA T m ws lg :: L) w) :
    Calls Tryz.prog 182 #[aV b S g d x l i wv v, .pointer (some ⟨m, 0, none⟩)] w fun e w' => e = .returned (misV b S g d x l i wv v) ∧ Own w0 F0 (memA T m ws (lg ++ [⟨3, (b : Int) + 4 + i, wv, nxt wv v, false⟩]) :: L) w' := by
  have h1 := (h.new (aO b S g d x l i wv v)).swap
  have h2 := swap_any b i S g d x l wv v v hb hi hl hg t0 t1 v0 v1 h1
  rw [if_neg he, beq_f he] at h2
  have H1 := Lib.hid h2
  clear h2 h hl hg
  unfold misV
  generalize hmv : (if l < S then (Value.func (Fn.func 189) #[aV b S g d x l i wv v] #[]) else (Value.func (Fn.func 170) #[aV b S g d (nx (dr x)) l i wv v] #[])) = mv
  have Hmv := Lib.hid hmv
  clear hmv
  unfold aV
  unfold aO at h1
  unfold aV at H1
  obtain ⟨c0, c1, c2, c3, c4, c5, c6, c7, c8, f⟩ := aCells h1.swap
  clear h1
  go_enter Tryz.func182, Tryz.ntmps182
  go_wp2_with fail
  refine H1.out.mono ?_
  rintro e w1 ⟨rfl, hO⟩
  clear H1 c0 c1 c2 c3 c4 c5 c6 c7 c8 f
  have HM := Lib.hid (missed_any b S g d x l i wv v l0 l1 hO)
  unfold misV at HM
  rw [Hmv.out] at HM
  unfold aV at HM
  obtain ⟨c0, c1, c2, c3, c4, c5, c6, c7, c8, f⟩ := aCells hO.swap
  clear hO
  go_wp2_with fail
  refine HM.out.mono ?_
  rintro e w2 ⟨rfl, hO⟩
  clear HM c0 c1 c2 c3 c4 c5 c6 c7 c8 f
  go_wp2_with fail
  go_ret
  exact ⟨rfl, hO.under fun _ _ h => h.drop⟩
theorem leave_any (b i : Nat) (S g d x l wv v : Int) (hb : b ≤ 1000) (hl : b + 1 < ws.length) (hg : lg.length < 1000000) (h : Own w0 F0 (memA T m ws lg :: L) w) :
    Calls Tryz.prog 183 #[aV b S g d x l i wv v, .pointer (some ⟨m, 0, none⟩)] w fun e w' => e = .returned (.func (Fn.func 188) #[aV b S g d x l i wv v] #[]) ∧ Own w0 F0 (memA T m (ws.set (b + 1) (wrap64 (ws.getD (b + 1) 0 + 1))) (lg ++ [⟨2, (b : Int) + 1, 1, wrap64 (ws.getD (b + 1) 0 + 1), false⟩]) :: L) w' := by
  have h1 := (h.new (aO b S g d x l i wv v)).swap
  have H1 := Lib.hid (raiseBegun_any b S g d x l i wv v 1 _ hb hl hg rfl h1)
  generalize wrap64 (ws.getD (b + 1) 0 + 1) = n at H1 ⊢
  clear h hl hg
  unfold aV
  unfold aO at h1
  unfold aV at H1
  obtain ⟨c0, c1, c2, c3, c4, c5, c6, c7, c8, f⟩ := aCells h1.swap
  clear h1
  go_enter Tryz.func183, Tryz.ntmps183
  go_wp2_with fail
  refine H1.out.mono ?_
  rintro e w1 ⟨rfl, hO⟩
  clear H1 c0 c1 c2 c3 c4 c5 c6 c7 c8 f
  obtain ⟨c0, c1, c2, c3, c4, c5, c6, c7, c8, f⟩ := aCells hO.swap
  go_wp2_with fail
  go_ret
  exact ⟨rfl, hO.under fun _ _ h => h.drop⟩
theorem empty_yes (b i : Nat) (S g d x l wv v : Int) (hb : b ≤ 1000) (hi : i ≤ 8) (hl : b + 4 + i < ws.length) (hg : lg.length < 1000000) (v0 : -9223372036854775808 ≤ wv) (v1 : wv ≤ 9223372036854775807) (he : ws.getD (b + 4 + i) 0 = wv) (h : Own w0 F0 (memA T m ws lg :: L) w) :
    Calls Tryz.prog 188 #[aV b S g d x l i wv v, .pointer (some ⟨m, 0, none⟩)] w fun e w' => e = .returned (.func (Fn.func 191) #[aV b S g d x l i wv v] #[]) ∧ Own w0 F0 (memA T m (ws.set (b + 4 + i) (nxt wv 0)) (lg ++ [⟨3, (b : Int) + 4 + i, wv, nxt wv 0, true⟩]) :: L) w' := by
  have h1 := (h.new (aO b S g d x l i wv v)).swap
  have h2 := swap_any b i S g d x l wv v 0 hb hi hl hg (by decide) (by decide) v0 v1 h1
  rw [if_pos he, beq_t he] at h2
  have H1 := Lib.hid h2
  clear h2 h hl hg
  unfold aV
  unfold aO at h1
  unfold aV at H1
  obtain ⟨c0, c1, c2, c3, c4, c5, c6, c7, c8, f⟩ := aCells h1.swap
  clear h1
  go_enter Tryz.func188, Tryz.ntmps188
  go_wp2_with fail
  refine H1.out.mono ?_
  rintro e w1 ⟨rfl, hO⟩
  clear H1 c0 c1 c2 c3 c4 c5 c6 c7 c8 f
  obtain ⟨c0, c1, c2, c3, c4, c5, c6, c7, c8, f⟩ := aCells hO.swap
  go_wp2_with fail
  go_ret
  exact ⟨rfl, hO.under fun _ _ h => h.drop⟩
theorem empty_no (b i : Nat) (S g d x l wv v : Int) (hb : b ≤ 1000) (hi : i ≤ 8) (hl : b + 4 + i < ws.length) (hg : lg.length < 1000000) (v0 : -9223372036854775808 ≤ wv) (v1 : wv ≤ 9223372036854775807) (he : ws.getD (b + 4 + i) 0 ≠ wv) (h : Own w0 F0 (memA T m ws lg :: L) w) :
    Calls Tryz.prog 188 #[aV b S g d x l i wv v, .pointer (some ⟨m, 0, none⟩)] w fun e w' => e = .returned (.func (Fn.func 192) #[aV b S g d x l i wv v] #[]) ∧ Own w0 F0 (memA T m ws (lg ++ [⟨3, (b : Int) + 4 + i, wv, nxt wv 0, false⟩]) :: L) w' := by
  have h1 := (h.new (aO b S g d x l i wv v)).swap
  have h2 := swap_any b i S g d x l wv v 0 hb hi hl hg (by decide) (by decide) v0 v1 h1
  rw [if_neg he, beq_f he] at h2
  have H1 := Lib.hid h2
  clear h2 h hl hg
  unfold aV
  unfold aO at h1
  unfold aV at H1
  obtain ⟨c0, c1, c2, c3, c4, c5, c6, c7, c8, f⟩ := aCells h1.swap
  clear h1
  go_enter Tryz.func188, Tryz.ntmps188
  go_wp2_with fail
  refine H1.out.mono ?_
  rintro e w1 ⟨rfl, hO⟩
  clear H1 c0 c1 c2 c3 c4 c5 c6 c7 c8 f
  obtain ⟨c0, c1, c2, c3, c4, c5, c6, c7, c8, f⟩ := aCells hO.swap
  go_wp2_with fail
  go_ret
  exact ⟨rfl, hO.under fun _ _ h => h.drop⟩
theorem bring_any (b i : Nat) (S g d x l wv v : Int) (hb : b ≤ 1000) (hl : b < ws.length) (hg : lg.length < 1000000) (h : Own w0 F0 (memA T m ws lg :: L) w) :
    Calls Tryz.prog 191 #[aV b S g d x l i wv v, .pointer (some ⟨m, 0, none⟩)] w fun e w' => e = .returned (.func (Fn.func 195) #[aV b S g d x l i wv v] #[]) ∧ Own w0 F0 (memA T m (ws.set b (wrap64 (ws.getD b 0 + v))) (lg ++ [⟨2, (b : Int), v, wrap64 (ws.getD b 0 + v), false⟩]) :: L) w' := by
  have h1 := (h.new (aO b S g d x l i wv v)).swap
  have H1 := Lib.hid (raiseGlobal_any b S g d x l i wv v v _ hb hl hg rfl h1)
  generalize wrap64 (ws.getD b 0 + v) = n at H1 ⊢
  clear h hl hg
  unfold aV
  unfold aO at h1
  unfold aV at H1
  obtain ⟨c0, c1, c2, c3, c4, c5, c6, c7, c8, f⟩ := aCells h1.swap
  clear h1
  go_enter Tryz.func191, Tryz.ntmps191
  go_wp2_with fail
  refine H1.out.mono ?_
  rintro e w1 ⟨rfl, hO⟩
  clear H1 c0 c1 c2 c3 c4 c5 c6 c7 c8 f
  obtain ⟨c0, c1, c2, c3, c4, c5, c6, c7, c8, f⟩ := aCells hO.swap
  go_wp2_with fail
  go_ret
  exact ⟨rfl, hO.under fun _ _ h => h.drop⟩
theorem end_any (b i : Nat) (S g d x l wv v : Int) (hb : b ≤ 1000) (hl : b + 2 < ws.length) (hg : lg.length < 1000000) (h : Own w0 F0 (memA T m ws lg :: L) w) :
    Calls Tryz.prog 195 #[aV b S g d x l i wv v, .pointer (some ⟨m, 0, none⟩)] w fun e w' => e = .returned .nilFunc ∧ Own w0 F0 (memA T m (ws.set (b + 2) (wrap64 (ws.getD (b + 2) 0 + 1))) (lg ++ [⟨2, (b : Int) + 2, 1, wrap64 (ws.getD (b + 2) 0 + 1), false⟩]) :: L) w' := by
  have h1 := (h.new (aO b S g d x l i wv v)).swap
  have H1 := Lib.hid (raiseDone_any b S g d x l i wv v 1 _ hb hl hg rfl h1)
  generalize wrap64 (ws.getD (b + 2) 0 + 1) = n at H1 ⊢
  clear h hl hg
  unfold aV
  unfold aO at h1
  unfold aV at H1
  obtain ⟨c0, c1, c2, c3, c4, c5, c6, c7, c8, f⟩ := aCells h1.swap
  clear h1
  go_enter Tryz.func195, Tryz.ntmps195
  go_wp2_with fail
  refine H1.out.mono ?_
  rintro e w1 ⟨rfl, hO⟩
  clear H1 c0 c1 c2 c3 c4 c5 c6 c7 c8 f
  go_wp2_with fail
  go_ret
  exact ⟨rfl, hO.under fun _ _ h => h.drop⟩
theorem bringNothing_any (b i : Nat) (S g d x l wv v : Int) (hb : b ≤ 1000) (l0 : -9223372036854775808 ≤ x) (l1 : x ≤ 9223372036854775807) (hl : b + 2 < ws.length) (hg : lg.length < 1000000) (h : Own w0 F0 (memA T m ws lg :: L) w) :
    Calls Tryz.prog 192 #[aV b S g d x l i wv v, .pointer (some ⟨m, 0, none⟩)] w fun e w' => e = .returned (misV b S g d x l i wv v) ∧ Own w0 F0 (memA T m (ws.set (b + 2) (wrap64 (ws.getD (b + 2) 0 + 1))) (lg ++ [⟨2, (b : Int) + 2, 1, wrap64 (ws.getD (b + 2) 0 + 1), false⟩]) :: L) w' := by
  have h1 := (h.new (aO b S g d x l i wv v)).swap
  have H1 := Lib.hid (raiseDone_any b S g d x l i wv v 1 _ hb hl hg rfl h1)
  generalize wrap64 (ws.getD (b + 2) 0 + 1) = n at H1 ⊢
  clear h hl hg
  unfold misV
  generalize hmv : (if l < S then (Value.func (Fn.func 189) #[aV b S g d x l i wv v] #[]) else (Value.func (Fn.func 170) #[aV b S g d (nx (dr x)) l i wv v] #[])) = mv
  have Hmv := Lib.hid hmv
  clear hmv
  unfold aV
  unfold aO at h1
  unfold aV at H1
  obtain ⟨c0, c1, c2, c3, c4, c5, c6, c7, c8, f⟩ := aCells h1.swap
  clear h1
  go_enter Tryz.func192, Tryz.ntmps192
  go_wp2_with fail
  refine H1.out.mono ?_
  rintro e w1 ⟨rfl, hO⟩
  clear H1 c0 c1 c2 c3 c4 c5 c6 c7 c8 f
  have HM := Lib.hid (missed_any b S g d x l i wv v l0 l1 hO)
  unfold misV at HM
  rw [Hmv.out] at HM
  unfold aV at HM
  obtain ⟨c0, c1, c2, c3, c4, c5, c6, c7, c8, f⟩ := aCells hO.swap
  clear hO
  go_wp2_with fail
  refine HM.out.mono ?_
  rintro e w2 ⟨rfl, hO⟩
  clear HM c0 c1 c2 c3 c4 c5 c6 c7 c8 f
  go_wp2_with fail
  go_ret
  exact ⟨rfl, hO.under fun _ _ h => h.drop⟩
theorem widen_any (b i : Nat) (S g d x l wv v : Int) (hb : b ≤ 1000) (l0 : -9223372036854775808 ≤ x) (l1 : x ≤ 9223372036854775807) (hi : i ≤ 8) (hl : b + 3 < ws.length) (hg : lg.length < 1000000) (m0 : 0 ≤ l) (m1 : l ≤ 8) (h : Own w0 F0 (memA T m ws lg :: L) w) :
    Calls Tryz.prog 189 #[aV b S g d x l i wv v, .pointer (some ⟨m, 0, none⟩)] w fun e w' => e = .returned (.func (Fn.func 170) #[aV b S g d (nx (dr x)) l i wv v] #[]) ∧ Own w0 F0 (memA T m (if ws.getD (b + 3) 0 = l then ws.set (b + 3) (2 * l) else ws) (lg ++ [⟨3, (b : Int) + 3, l, 2 * l, ws.getD (b + 3) 0 == l⟩]) :: L) w' := by
  have h1 := (h.new (aO b S g d x l i wv v)).swap
  have e2 : (2 : Int) * l = IntKind.i64.wrap (2 * l) := (IntWalk.i64_in _ (by omega)).symm
  rw [e2]
  have HC := fun L2 w h => Lib.hid (Cas_y (w0 := w0) (F0 := F0) (L := L2) (T := T) (m := m) (ws := ws) (lg := lg) (w := w) (b + 3) ((b : Int) + 3) l (IntKind.i64.wrap (2 * l)) (by omega) hl hg h)
  generalize (ws.getD (b + 3) 0 == l) = q at HC ⊢
  generalize (if ws.getD (b + 3) 0 = l then ws.set (b + 3) (IntKind.i64.wrap (2 * l)) else ws) = ws' at HC ⊢
  clear e2
  have B0 : (0 : Int) ≤ b := by omega
  have B1 : (b : Int) ≤ 1000 := by omega
  have HS := fun w => Lib.hid (cLive_any b S B0 (by omega) w)
  have HA := fun L2 w h => Lib.hid (again_any (w0 := w0) (F0 := F0) (L := L2) (w := w) b S g d x l i wv v l0 l1 h)
  clear h hl hg hb hi l0 l1
  unfold cV at HS
  unfold aV at HA
  unfold aV
  unfold aO at h1
  have hO := h1.drew
  obtain ⟨c0, c1, c2, c3, c4, c5, c6, c7, c8, f⟩ := aCells hO.swap
  clear h1
  go_enter Tryz.func189, Tryz.ntmps189
  go_wp2_with fail
  go_region_held3 (fun w' => w'.cell? ⟨w.heap.size, 0, none⟩ = some (.int .i64 b) ∧ w'.cell? ⟨w.heap.size, 1, none⟩ = some (.int .i64 S) ∧ w'.cell? ⟨w.heap.size, 5, none⟩ = some (.int .i64 l)) (go_keep) (first
    | (go_at_call 177; refine (HS _).out.mono ?_; rintro e w2 ⟨rfl, hB⟩; have hO := Own.below (by with_reducible assumption) hB; obtain ⟨c0, c1, c2, c3, c4, c5, c6, c7, c8, f⟩ := aCells hO.swap)
    | (go_at_call 132; refine (HC _ _ (by with_reducible assumption)).out.mono ?_; rintro e w3 ⟨rfl, hO⟩; obtain ⟨c0, c1, c2, c3, c4, c5, c6, c7, c8, f⟩ := aCells hO.swap))
  all_goals
    have H2 := HA _ _ hO
    clear HA
    go_wp2_with fail
    refine H2.out.mono ?_
    rintro e w5 ⟨rfl, hO⟩
    clear H2 c0 c1 c2 c3 c4 c5 c6 c7 c8 f
    go_wp2_with fail
    go_ret
    exact ⟨rfl, hO.under fun _ _ h => h.drop⟩
end Go.Proofs.YtjfjjmlocgmicaaGreat
end
section
namespace Go.Proofs.YtjfjjmlocgmicaaGreat
open Go.RowKit
set_option linter.unusedVariables false
variable {p : AP} {s : AS} {ws : List Int} {lg : List Acc}
theorem Pow8.bd {a : Int} (h : Pow8 a) : 1 ≤ a ∧ a ≤ 8 := by rcases h with h | h | h | h <;> omega
theorem Pow8.dbl {a S : Int} (h : Pow8 a) (k : Pow8 S) (hl : a < S) : Pow8 (2 * a) ∧ 2 * a ≤ S := by
  unfold Pow8 at *; omega
theorem WOk.set (hw : WOk p ws) (k : Nat) (x : Int) (hx : I64 x) (h3 : k = p.b + 3 → Pow8 x ∧ x ≤ p.S) (h4 : ∀ j : Nat, k = p.b + 4 + j → (j : Int) < p.S → -p.g < pval x ∧ pval x < p.g) : WOk p (ws.set k x) := by
  refine ⟨by rw [List.length_set]; exact hw.len, by rw [List.length_set]; exact hw.most, fun j => ?_, ?_, ?_, fun j hj => ?_⟩
  · rw [getD_set]; split
    · exact hx
    · exact hw.wf j
  · rw [getD_set]; split
    · rename_i h; exact (h3 h.1).1
    · exact hw.live
  · rw [getD_set]; split
    · rename_i h; exact (h3 h.1).2
    · exact hw.live2
  · rw [getD_set]; split
    · rename_i h; exact h4 j h.1 hj
    · exact hw.gate j hj
theorem WOk.setLow (hw : WOk p ws) (k : Nat) (x : Int) (hx : I64 x) (hk : k < p.b + 3) : WOk p (ws.set k x) :=
  hw.set k x hx (fun h => by omega) (fun j h => by omega)
theorem WOk.setStripe (hp : p.Ok) (hw : WOk p ws) (i : Nat) (wv v : Int) (h0 : -p.g < v) (h1 : v < p.g) : WOk p (ws.set (p.b + 4 + i) (nxt wv v)) := by
  have := hp.g1
  exact hw.set _ _ (nxt_I _ _) (fun h => by omega) (fun j _ _ => by rw [pval_nxt _ _ (by omega) (by omega)]; exact ⟨h0, h1⟩)
theorem WOk.step (hp : p.Ok) (hw : WOk p ws) (hs : SOk p s) : WOk p (stepA p s ws lg).2.1 := by
  obtain ⟨at_, x, l, i, wv, v⟩ := s
  have h9 := hs.at_
  have hg := hp.g0
  match at_, h9 with
  | 0, _ => exact hw
  | 1, _ => exact hw
  | 2, _ =>
    simp only [stepA]; split
    · exact hw.setStripe hp i wv v (hs.v2 rfl).1 (hs.v2 rfl).2
    · exact hw
  | 3, _ => exact hw.setLow _ _ (wrap64_I _) (by omega)
  | 4, _ =>
    simp only [stepA]; split
    · exact hw.setStripe hp i wv 0 (by omega) (by omega)
    · exact hw
  | 5, _ => exact hw.setLow _ _ (wrap64_I _) (by omega)
  | 6, _ => exact hw.setLow _ _ (wrap64_I _) (by omega)
  | 7, _ => exact hw.setLow _ _ (wrap64_I _) (by omega)
  | 8, _ =>
    have h := hs.l (by simp) (by simp)
    have h8 := h.1.dbl hp.S (hs.l8 rfl)
    have hb := h.1.bd
    simp only [stepA]; split
    · exact hw.set _ _ (by unfold I64; simp only at hb ⊢; omega) (fun _ => h8) (fun j h => by omega)
    · exact hw
  | 9, _ => exact hw
  | k + 10, hk => simp only at hk; omega
theorem SOk.miss (hp : p.Ok) (hs : SOk p s) (h0 : s.at_ = 2 ∨ s.at_ = 7) : SOk p (missA p s) := by
  have hl := hs.l (by omega) (by omega)
  have hi := hs.i (by omega) (by omega)
  unfold missA
  split
  · rename_i h
    exact ⟨by simp, hs.x0, hs.x1, fun _ _ => hl, fun _ => h, hs.lI, fun _ _ => hi, hs.iI, hs.w, fun _ h => by simp at h, fun h => by simp at h, hs.vI⟩
  · have hx := nx_bd (dr s.x) (dr_bd s.x).1 (dr_bd s.x).2
    exact ⟨by simp, hx.1, hx.2, fun h => by simp at h, fun h => by simp at h, hs.lI, fun h => by simp at h, hs.iI, hs.w, fun h => by simp at h, fun h => by simp at h, hs.vI⟩
theorem SOk.step (hp : p.Ok) (hw : WOk p ws) (hs : SOk p s) : SOk p (stepA p s ws lg).1 := by
  have hmiss := fun h0 => SOk.miss hp hs h0
  obtain ⟨at_, x, l, i, wv, v⟩ := s
  obtain ⟨h9, x0, x1, hl, l8, lI, hi, iI, hwI, wg, v2, vI⟩ := hs
  simp only at h9 x0 x1 hl l8 lI hi iI hwI wg v2 vI hmiss
  have hS := hp.S.bd
  have hd0 := hp.d0
  have hd1 := hp.d1
  have hg0 := hp.g0
  have hg1 := hp.g1
  match at_, h9 with
  | 0, _ =>
    have hlv := hw.live.bd
    have hl2 := hw.live2
    have m0 := Int.emod_nonneg x (b := ws.getD (p.b + 3) 0) (by omega)
    have m1 := Int.emod_lt_of_pos x (b := ws.getD (p.b + 3) 0) (by omega)
    refine ⟨by simp [stepA], x0, x1, fun _ _ => ⟨hw.live, hl2⟩, fun h => by simp [stepA] at h, hw.wf _, fun _ _ => ?_, ?_, hwI, fun h => by simp [stepA] at h, fun h => by simp [stepA] at h, vI⟩
    · simp only [stepA]; omega
    · simp only [stepA]; omega
  | 1, _ =>
    have hii := hi (by simp) (by simp)
    have hgt := hw.gate i hii
    have hn := hl (by simp) (by simp)
    simp only [stepA]
    refine ⟨by split <;> simp, x0, x1, fun _ _ => hn, fun h => ?_, lI, fun _ _ => hii, iI, hw.wf _, fun _ _ => ⟨hgt.1, hgt.2, rfl⟩, fun h => ?_, ?_⟩
    · simp only at h; split at h <;> simp at h
    · simp only at h; split at h
      · rename_i hh; exact hh
      · simp at h
    · unfold I64; simp only; omega
  | 2, _ =>
    simp only [stepA]; split
    · exact ⟨by simp, x0, x1, fun _ h => by simp at h, fun h => by simp at h, lI, fun _ h => by simp at h, iI, hwI, fun _ h => by simp at h, fun h => by simp at h, vI⟩
    · exact hmiss (Or.inl rfl)
  | 3, _ => exact ⟨by simp [stepA], x0, x1, fun _ _ => hl (by simp) (by simp), fun h => by simp [stepA] at h, lI, fun _ _ => hi (by simp) (by simp), iI, hwI, fun _ _ => wg (by simp) (by simp), fun h => by simp [stepA] at h, vI⟩
  | 4, _ =>
    simp only [stepA]; split
    · exact ⟨by simp, x0, x1, fun _ _ => hl (by simp) (by simp), fun h => by simp at h, lI, fun _ _ => hi (by simp) (by simp), iI, hwI, fun _ _ => wg (by simp) (by simp), fun h => by simp at h, vI⟩
    · exact ⟨by simp, x0, x1, fun _ _ => hl (by simp) (by simp), fun h => by simp at h, lI, fun _ _ => hi (by simp) (by simp), iI, hwI, fun _ _ => wg (by simp) (by simp), fun h => by simp at h, vI⟩
  | 5, _ => exact ⟨by simp [stepA], x0, x1, fun _ _ => hl (by simp) (by simp), fun h => by simp [stepA] at h, lI, fun _ _ => hi (by simp) (by simp), iI, hwI, fun _ _ => wg (by simp) (by simp), fun h => by simp [stepA] at h, vI⟩
  | 6, _ => exact ⟨by simp [stepA], x0, x1, fun _ h => by simp [stepA] at h, fun h => by simp [stepA] at h, lI, fun _ h => by simp [stepA] at h, iI, hwI, fun _ h => by simp [stepA] at h, fun h => by simp [stepA] at h, vI⟩
  | 7, _ => exact hmiss (Or.inr rfl)
  | 8, _ =>
    have hx := nx_bd (dr x) (dr_bd x).1 (dr_bd x).2
    exact ⟨by simp [stepA], hx.1, hx.2, fun h => by simp [stepA] at h, fun h => by simp [stepA] at h, lI, fun h => by simp [stepA] at h, iI, hwI, fun h => by simp [stepA] at h, fun h => by simp [stepA] at h, vI⟩
  | 9, _ => exact ⟨by simp [stepA], x0, x1, fun _ h => by simp [stepA] at h, fun h => by simp [stepA] at h, lI, fun _ h => by simp [stepA] at h, iI, hwI, fun _ h => by simp [stepA] at h, fun h => by simp [stepA] at h, vI⟩
  | k + 10, hk => omega
def strN (b : Nat) (ws : List Int) : Nat → Int
  | 0 => 0
  | n + 1 => strN b ws n + pval (ws.getD (b + 4 + n) 0)
theorem strN_set (b : Nat) (ws : List Int) (j : Nat) (x : Int) (hj : b + 4 + j < ws.length) : ∀ n, strN b (ws.set (b + 4 + j) x) n = if j < n then strN b ws n - pval (ws.getD (b + 4 + j) 0) + pval x else strN b ws n
  | 0 => by simp [strN]
  | n + 1 => by
    rw [strN, strN, strN_set b ws j x hj n, getD_set]
    by_cases h : j = n
    · subst h
      rw [if_neg (by omega), if_pos ⟨rfl, hj⟩, if_pos (by omega)]; omega
    · rw [if_neg (by omega : ¬ (b + 4 + j = b + 4 + n ∧ b + 4 + j < ws.length))]
      by_cases h2 : j < n
      · rw [if_pos h2, if_pos (by omega)]; omega
      · rw [if_neg h2, if_neg (by omega)]
theorem strN_low (b : Nat) (ws : List Int) (k : Nat) (x : Int) (hk : k < b + 4) : ∀ n, strN b (ws.set k x) n = strN b ws n
  | 0 => rfl
  | n + 1 => by rw [strN, strN, strN_low b ws k x hk n, getD_set, if_neg (by omega)]
def sumZ (p : AP) (ws : List Int) : Int := ws.getD p.b 0 + strN p.b ws p.S.toNat
theorem wrap64_ex (a : Int) : ∃ k : Int, wrap64 a = a + k * 18446744073709551616 := ⟨-((a + 9223372036854775808) / 18446744073709551616), by unfold wrap64; omega⟩
theorem sumZ_stripe (hw : WOk p ws) (i : Nat) (x : Int) (hi : (i : Int) < p.S) : sumZ p (ws.set (p.b + 4 + i) x) = sumZ p ws - pval (ws.getD (p.b + 4 + i) 0) + pval x := by
  have := hw.len
  unfold sumZ
  rw [getD_set, if_neg (by omega), strN_set _ _ _ _ (by omega), if_pos (by omega)]; omega
theorem sumZ_low (k : Nat) (x : Int) (h0 : k < p.b + 4) (h1 : k ≠ p.b) : sumZ p (ws.set k x) = sumZ p ws := by
  unfold sumZ
  rw [getD_set, if_neg (by omega), strN_low _ _ _ _ h0]
theorem sumZ_glob (x : Int) (h : p.b < ws.length) : sumZ p (ws.set p.b x) = sumZ p ws - ws.getD p.b 0 + x := by
  unfold sumZ
  rw [getD_set, if_pos ⟨rfl, h⟩, strN_low _ _ _ _ (by omega)]; omega
def owed (p : AP) (s : AS) : Int := if s.at_ = 5 then s.v else if s.at_ = 6 ∨ s.at_ = 9 then 0 else p.d
def busy (s : AS) : Int := if 4 ≤ s.at_ ∧ s.at_ ≤ 7 then 1 else 0
theorem owed_miss : owed p (missA p s) = p.d := by unfold missA owed; split <;> simp
theorem busy_miss : busy (missA p s) = 0 := by unfold missA busy; split <;> simp
theorem owed_step (hp : p.Ok) (hw : WOk p ws) (hs : SOk p s) : ∃ k : Int, sumZ p (stepA p s ws lg).2.1 + owed p (stepA p s ws lg).1 = sumZ p ws + owed p s + k * 18446744073709551616 := by
  obtain ⟨at_, x, l, i, wv, v⟩ := s
  obtain ⟨h9, x0, x1, hl, l8, lI, hi, iI, hwI, wg, v2, vI⟩ := hs
  simp only at h9 x0 x1 hl l8 lI hi iI hwI wg v2 vI
  have hg0 := hp.g0
  have hg1 := hp.g1
  have hlen := hw.len
  match at_, h9 with
  | 0, _ => exact ⟨0, by simp [stepA, owed]⟩
  | 1, _ => exact ⟨0, by simp only [stepA, owed]; split <;> simp⟩
  | 2, _ =>
    have hii := hi (by simp) (by simp)
    have hv := wg (by simp) (by simp)
    have h2 := v2 rfl
    simp only [stepA]; split
    · rename_i he
      refine ⟨0, ?_⟩
      simp only [owed]
      rw [sumZ_stripe hw i _ hii, pval_nxt _ _ (by omega) (by omega), he]
      simp; omega
    · exact ⟨0, by rw [owed_miss]; simp [owed]⟩
  | 3, _ => exact ⟨0, by simp only [stepA, owed]; rw [sumZ_low _ _ (by omega) (by omega)]; simp⟩
  | 4, _ =>
    have hii := hi (by simp) (by simp)
    have hv := wg (by simp) (by simp)
    simp only [stepA]; split
    · rename_i he
      refine ⟨0, ?_⟩
      simp only [owed]
      rw [sumZ_stripe hw i _ hii, pval_nxt _ _ (by omega) (by omega), he]
      simp; omega
    · exact ⟨0, by simp [owed]⟩
  | 5, _ =>
    obtain ⟨k, hk⟩ := wrap64_ex (ws.getD p.b 0 + v)
    refine ⟨k, ?_⟩
    simp only [stepA, owed]
    rw [sumZ_glob _ (by omega), hk]
    simp; omega
  | 6, _ => exact ⟨0, by simp only [stepA, owed]; rw [sumZ_low _ _ (by omega) (by omega)]; simp⟩
  | 7, _ => exact ⟨0, by simp only [stepA]; rw [owed_miss, sumZ_low _ _ (by omega) (by omega)]; simp [owed]⟩
  | 8, _ =>
    refine ⟨0, ?_⟩
    simp only [stepA, owed]; split
    · rw [sumZ_low _ _ (by omega) (by omega)]; simp
    · simp
  | 9, _ => exact ⟨0, by simp [stepA, owed]⟩
  | k + 10, hk => omega
def gapZ (p : AP) (ws : List Int) : Int := ws.getD (p.b + 1) 0 - ws.getD (p.b + 2) 0
theorem gapZ_set (k : Nat) (x : Int) (h1 : k ≠ p.b + 1) (h2 : k ≠ p.b + 2) : gapZ p (ws.set k x) = gapZ p ws := by
  unfold gapZ
  rw [getD_set, getD_set, if_neg (by omega), if_neg (by omega)]
theorem busy_step (hp : p.Ok) (hw : WOk p ws) (hs : SOk p s) : ∃ k : Int, gapZ p (stepA p s ws lg).2.1 - busy (stepA p s ws lg).1 = gapZ p ws - busy s + k * 18446744073709551616 := by
  obtain ⟨at_, x, l, i, wv, v⟩ := s
  have h9 := hs.at_
  have hlen := hw.len
  simp only at h9
  have hbeg : ∃ k : Int, gapZ p (ws.set (p.b + 1) (wrap64 (ws.getD (p.b + 1) 0 + 1))) = gapZ p ws + 1 + k * 18446744073709551616 := by
    obtain ⟨k, hk⟩ := wrap64_ex (ws.getD (p.b + 1) 0 + 1)
    refine ⟨k, ?_⟩
    unfold gapZ
    rw [getD_set, getD_set, if_pos ⟨rfl, by omega⟩, if_neg (by omega), hk]; omega
  have hdone : ∃ k : Int, gapZ p (ws.set (p.b + 2) (wrap64 (ws.getD (p.b + 2) 0 + 1))) = gapZ p ws - 1 + k * 18446744073709551616 := by
    obtain ⟨k, hk⟩ := wrap64_ex (ws.getD (p.b + 2) 0 + 1)
    refine ⟨-k, ?_⟩
    unfold gapZ
    rw [getD_set, getD_set, if_neg (by omega), if_pos ⟨rfl, by omega⟩, hk]; omega
  match at_, h9 with
  | 0, _ => exact ⟨0, by simp [stepA, busy]⟩
  | 1, _ => exact ⟨0, by simp only [stepA, busy]; split <;> simp⟩
  | 2, _ =>
    simp only [stepA]; split
    · exact ⟨0, by simp only [busy]; rw [gapZ_set _ _ (by omega) (by omega)]; simp⟩
    · exact ⟨0, by rw [busy_miss]; simp [busy]⟩
  | 3, _ =>
    obtain ⟨k, hk⟩ := hbeg
    exact ⟨k, by simp only [stepA, busy]; rw [hk]; simp; omega⟩
  | 4, _ =>
    simp only [stepA]; split
    · exact ⟨0, by simp only [busy]; rw [gapZ_set _ _ (by omega) (by omega)]; simp⟩
    · exact ⟨0, by simp [busy]⟩
  | 5, _ => exact ⟨0, by simp only [stepA, busy]; rw [gapZ_set _ _ (by omega) (by omega)]; simp⟩
  | 6, _ =>
    obtain ⟨k, hk⟩ := hdone
    exact ⟨k, by simp only [stepA, busy]; rw [hk]; simp⟩
  | 7, _ =>
    obtain ⟨k, hk⟩ := hdone
    exact ⟨k, by simp only [stepA]; rw [hk, busy_miss]; simp [busy]⟩
  | 8, _ =>
    refine ⟨0, ?_⟩
    simp only [stepA, busy]; split
    · rw [gapZ_set _ _ (by omega) (by omega)]; simp
    · simp
  | 9, _ => exact ⟨0, by simp [stepA, busy]⟩
  | k + 10, hk => omega
def mu (p : AP) (s : AS) (ws : List Int) : Nat :=
  match s.at_ with
  | 0 => 6
  | 1 => 5
  | 2 => if ws.getD (p.b + 4 + s.i) 0 = s.w then 1 else 8
  | 3 => if ws.getD (p.b + 4 + s.i) 0 = s.w then 4 else 10
  | 4 => if ws.getD (p.b + 4 + s.i) 0 = s.w then 3 else 9
  | 5 => 2
  | 6 => 1
  | 7 => 8
  | 8 => 7
  | _ => 0
theorem mu_miss : mu p (missA p s) ws ≤ 7 := by
  unfold missA
  by_cases h : s.l < p.S
  · rw [if_pos h]; simp [mu]
  · rw [if_neg h]; simp [mu]
theorem mu_step (hs : SOk p s) (h : s.at_ ≠ 9) : mu p (stepA p s ws lg).1 (stepA p s ws lg).2.1 < mu p s ws := by
  obtain ⟨at_, x, l, i, wv, v⟩ := s
  have h9 := hs.at_
  simp only at h9 h
  match at_, h9, h with
  | 0, _, _ => simp [stepA, mu]
  | 1, _, _ =>
    simp only [stepA, mu]
    split <;> rename_i hh <;> simp at hh ⊢ <;> split at hh <;> simp_all
  | 2, _, _ =>
    simp only [stepA]; split
    · rename_i he; simp only [mu]; rw [if_pos he]; simp
    · rename_i he
      have := mu_miss (p := p) (s := ⟨2, x, l, i, wv, v⟩) (ws := ws)
      simp only [mu] at this ⊢; rw [if_neg he]; omega
  | 3, _, _ =>
    simp only [stepA, mu]
    rw [getD_set, if_neg (show ¬ (p.b + 1 = p.b + 4 + i ∧ p.b + 1 < ws.length) by omega)]
    split <;> simp
  | 4, _, _ =>
    simp only [stepA]; split
    · rename_i he; simp only [mu]; rw [if_pos he]; simp
    · rename_i he; simp only [mu]; rw [if_neg he]; simp
  | 5, _, _ => simp [stepA, mu]
  | 6, _, _ => simp [stepA, mu]
  | 7, _, _ =>
    simp only [stepA]
    have := mu_miss (p := p) (s := ⟨7, x, l, i, wv, v⟩) (ws := ws.set (p.b + 2) (wrap64 (ws.getD (p.b + 2) 0 + 1)))
    simp only [mu] at this ⊢; omega
  | 8, _, _ => simp [stepA, mu]
  | 9, _, h => simp at h
  | k + 10, hk, _ => omega
theorem mu_le : mu p s ws ≤ 10 := by unfold mu; split <;> (try split) <;> omega
theorem step_end (hs : SOk p s) : (stepA p s ws lg).2.2.2 = true ↔ (stepA p s ws lg).1.at_ = 9 := by
  obtain ⟨at_, x, l, i, wv, v⟩ := s
  have h9 := hs.at_
  simp only at h9
  match at_, h9 with
  | 0, _ => simp [stepA]
  | 1, _ => simp only [stepA]; split <;> simp
  | 2, _ =>
    simp only [stepA]; split
    · simp
    · simp only [missA]; split <;> simp
  | 3, _ => simp [stepA]
  | 4, _ => simp only [stepA]; split <;> simp
  | 5, _ => simp [stepA]
  | 6, _ => simp [stepA]
  | 7, _ => simp only [stepA, missA]; split <;> simp
  | 8, _ => simp [stepA]
  | 9, _ => simp [stepA]
  | k + 10, hk => omega
theorem step_len : (stepA p s ws lg).2.1.length = ws.length := by
  unfold stepA; split <;> (try split) <;> simp
end Go.Proofs.YtjfjjmlocgmicaaGreat
end
