/- Texts of elder layers, one behind the other: Add2. -/
import Derived.Test.YtjohngpbggendaaGreatB17
section
/- Contracts of package add's steps: each makes its one access, and tells the next step. -/
namespace Go.Proofs.YtjohngpbggendaaGreat
open Go.ChangeShapes Go.WideShapes Go.ChangeAt Go.RowKit Go.Shelf
set_option linter.unusedVariables false
set_option maxRecDepth 100000
variable {w0 w w' : World} {F0 : Nat → Prop} {L : List Asn} {T : TypeId} {m : Nat} {ws : List Int} {lg : List Acc}
def misV (b S g d x l i wv v : Int) : Value := if l < S then .func (Fn.func 194) #[aV b S g d x l i wv v] #[] else .func (Fn.func 166) #[aV b S g d (nx (dr x)) l i wv v] #[]
theorem missed_any (b S g d x l i wv v : Int) (l0 : -9223372036854775808 ≤ x) (l1 : x ≤ 9223372036854775807) (h : Own w0 F0 L w) :
    Calls Tryz.prog 189 #[aV b S g d x l i wv v] w fun e w' => e = .returned (misV b S g d x l i wv v) ∧ Own w0 F0 L w' := by
  unfold misV
  by_cases hl : l < S
  · rw [if_pos hl]; exact missed_yes b S g d x l i wv v hl h
  · rw [if_neg hl]; exact missed_no b S g d x l i wv v (by omega) l0 l1 h
theorem raiseBegun_any (b : Nat) (S g d x l i wv v z y : Int) (hb : b ≤ 1000) (hl : b + 1 < ws.length) (hg : lg.length < 1000000) (hy : ws.getD (b + 1) 0 = y) (h : Own w0 F0 (memA T m ws lg :: L) w) :
    Calls Tryz.prog 190 #[aV b S g d x l i wv v, .pointer (some ⟨m, 0, none⟩), .func (Fn.func 191) #[] #[], .int .i64 z] w fun e w' =>
      e = .returned (.tuple #[]) ∧ Own w0 F0 (memA T m (ws.set (b + 1) (wrap64 (y + z))) (lg ++ [⟨2, (b : Int) + 1, z, wrap64 (y + z), false⟩]) :: L) w' := by
  have h1 := (h.new (aO b S g d x l i wv v)).swap
  have HA := fun L2 w h => Lib.hid (Add_y (w0 := w0) (F0 := F0) (L := L2) (T := T) (m := m) (ws := ws) (lg := lg) (w := w) (b + 1) ((b : Int) + 1) z y (by omega) hy hl hg h)
  have B0 : (0 : Int) ≤ b := by omega
  have B1 : (b : Int) ≤ 1000 := by omega
  have HS := fun w => Lib.hid (cBegun_any b S B0 (by omega) w)
  clear h hl hg hy hb
  generalize wrap64 (y + z) = n at HA ⊢
  unfold cV at HS
  unfold aV
  unfold aO at h1
  obtain ⟨c0, c1, c2, c3, c4, c5, c6, c7, c8, f⟩ := aCells h1.swap
  have H1 := Lib.hid h1
  clear h1
  go_enter Tryz.func190, Tryz.ntmps190
  go_wp2_with fail
  refine (HS _).out.mono ?_
  rintro e w1 ⟨rfl, hb1⟩
  have HL1 := HA _ _ (H1.out.below hb1)
  clear c0 c1 c2 c3 c4 c5 c6 c7 c8 f HS HA hb1 H1
  go_wp2_with fail
  refine HL1.out.mono ?_
  rintro e w2 ⟨rfl, hO⟩
  clear HL1
  go_wp2_with fail
  go_end0
  exact ⟨rfl, hO.under fun _ _ h => h.drop⟩
theorem raiseDone_any (b : Nat) (S g d x l i wv v z y : Int) (hb : b ≤ 1000) (hl : b + 2 < ws.length) (hg : lg.length < 1000000) (hy : ws.getD (b + 2) 0 = y) (h : Own w0 F0 (memA T m ws lg :: L) w) :
    Calls Tryz.prog 190 #[aV b S g d x l i wv v, .pointer (some ⟨m, 0, none⟩), .func (Fn.func 202) #[] #[], .int .i64 z] w fun e w' =>
      e = .returned (.tuple #[]) ∧ Own w0 F0 (memA T m (ws.set (b + 2) (wrap64 (y + z))) (lg ++ [⟨2, (b : Int) + 2, z, wrap64 (y + z), false⟩]) :: L) w' := by
  have h1 := (h.new (aO b S g d x l i wv v)).swap
  have HA := fun L2 w h => Lib.hid (Add_y (w0 := w0) (F0 := F0) (L := L2) (T := T) (m := m) (ws := ws) (lg := lg) (w := w) (b + 2) ((b : Int) + 2) z y (by omega) hy hl hg h)
  have B0 : (0 : Int) ≤ b := by omega
  have B1 : (b : Int) ≤ 1000 := by omega
  have HS := fun w => Lib.hid (cDone_any b S B0 (by omega) w)
  clear h hl hg hy hb
  generalize wrap64 (y + z) = n at HA ⊢
  unfold cV at HS
  unfold aV
  unfold aO at h1
  obtain ⟨c0, c1, c2, c3, c4, c5, c6, c7, c8, f⟩ := aCells h1.swap
  have H1 := Lib.hid h1
  clear h1
  go_enter Tryz.func190, Tryz.ntmps190
  go_wp2_with fail
  refine (HS _).out.mono ?_
  rintro e w1 ⟨rfl, hb1⟩
  have HL1 := HA _ _ (H1.out.below hb1)
  clear c0 c1 c2 c3 c4 c5 c6 c7 c8 f HS HA hb1 H1
  go_wp2_with fail
  refine HL1.out.mono ?_
  rintro e w2 ⟨rfl, hO⟩
  clear HL1
  go_wp2_with fail
  go_end0
  exact ⟨rfl, hO.under fun _ _ h => h.drop⟩
theorem raiseGlobal_any (b : Nat) (S g d x l i wv v z y : Int) (hb : b ≤ 1000) (hl : b < ws.length) (hg : lg.length < 1000000) (hy : ws.getD b 0 = y) (h : Own w0 F0 (memA T m ws lg :: L) w) :
    Calls Tryz.prog 190 #[aV b S g d x l i wv v, .pointer (some ⟨m, 0, none⟩), .func (Fn.func 200) #[] #[], .int .i64 z] w fun e w' =>
      e = .returned (.tuple #[]) ∧ Own w0 F0 (memA T m (ws.set b (wrap64 (y + z))) (lg ++ [⟨2, (b : Int), z, wrap64 (y + z), false⟩]) :: L) w' := by
  have h1 := (h.new (aO b S g d x l i wv v)).swap
  have HA := fun L2 w h => Lib.hid (Add_y (w0 := w0) (F0 := F0) (L := L2) (T := T) (m := m) (ws := ws) (lg := lg) (w := w) b ((b : Int)) z y (by omega) hy hl hg h)
  have B0 : (0 : Int) ≤ b := by omega
  have B1 : (b : Int) ≤ 1000 := by omega
  have HS := fun w => Lib.hid (cGlobal_any b S B0 (by omega) w)
  clear h hl hg hy hb
  generalize wrap64 (y + z) = n at HA ⊢
  unfold cV at HS
  unfold aV
  unfold aO at h1
  obtain ⟨c0, c1, c2, c3, c4, c5, c6, c7, c8, f⟩ := aCells h1.swap
  have H1 := Lib.hid h1
  clear h1
  go_enter Tryz.func190, Tryz.ntmps190
  go_wp2_with fail
  refine (HS _).out.mono ?_
  rintro e w1 ⟨rfl, hb1⟩
  have HL1 := HA _ _ (H1.out.below hb1)
  clear c0 c1 c2 c3 c4 c5 c6 c7 c8 f HS HA hb1 H1
  go_wp2_with fail
  refine HL1.out.mono ?_
  rintro e w2 ⟨rfl, hO⟩
  clear HL1
  go_wp2_with fail
  go_end0
  exact ⟨rfl, hO.under fun _ _ h => h.drop⟩
theorem keep_yes (b i : Nat) (S g d x l wv v : Int) (hb : b ≤ 1000) (hi : i ≤ 8) (hl : b + 4 + i < ws.length) (hg : lg.length < 1000000) (v0 : -9223372036854775808 ≤ wv) (v1 : wv ≤ 9223372036854775807) (t0 : -2147483648 ≤ v) (t1 : v ≤ 2147483647) (he : ws.getD (b + 4 + i) 0 = wv) (h : Own w0 F0 (memA T m ws lg :: L) w) :
    Calls Tryz.prog 185 #[aV b S g d x l i wv v, .pointer (some ⟨m, 0, none⟩)] w fun e w' => e = .returned .nilFunc ∧ Own w0 F0 (memA T m (ws.set (b + 4 + i) (nxt wv v)) (lg ++ [⟨3, (b : Int) + 4 + i, wv, nxt wv v, true⟩]) :: L) w' := by
  have h1 := (h.new (aO b S g d x l i wv v)).swap
  have h2 := swap_any b i S g d x l wv v v hb hi hl hg t0 t1 v0 v1 h1
  rw [if_pos he, beq_t he] at h2
  have H1 := Lib.hid h2
  clear h2 h hl hg
  unfold aV
  unfold aO at h1
  unfold aV at H1
  obtain ⟨c0, c1, c2, c3, c4, c5, c6, c7, c8, f⟩ := aCells h1.swap
  clear h1
  go_enter Tryz.func185, Tryz.ntmps185
  go_wp2_with fail
  refine H1.out.mono ?_
  rintro e w1 ⟨rfl, hO⟩
  clear H1 c0 c1 c2 c3 c4 c5 c6 c7 c8 f
  go_wp2_with fail
  go_ret
  exact ⟨rfl, hO.under fun _ _ h => h.drop⟩
theorem keep_no (b i : Nat) (S g d x l wv v : Int) (hb : b ≤ 1000) (hi : i ≤ 8) (l0 : -9223372036854775808 ≤ x) (l1 : x ≤ 9223372036854775807) (hl : b + 4 + i < ws.length) (hg : lg.length < 1000000) (v0 : -9223372036854775808 ≤ wv) (v1 : wv ≤ 9223372036854775807) (t0 : -2147483648 ≤ v) (t1 : v ≤ 2147483647) (he : ws.getD (b + 4 + i) 0 ≠ wv) (h : Own w0 F0 (memA T m ws lg :: L) w) :
    Calls Tryz.prog 185 #[aV b S g d x l i wv v, .pointer (some ⟨m, 0, none⟩)] w fun e w' => e = .returned (misV b S g d x l i wv v) ∧ Own w0 F0 (memA T m ws (lg ++ [⟨3, (b : Int) + 4 + i, wv, nxt wv v, false⟩]) :: L) w' := by
  have h1 := (h.new (aO b S g d x l i wv v)).swap
  have h2 := swap_any b i S g d x l wv v v hb hi hl hg t0 t1 v0 v1 h1
  rw [if_neg he, beq_f he] at h2
  have H1 := Lib.hid h2
  clear h2 h hl hg
  unfold misV
  generalize hmv : (if l < S then (Value.func (Fn.func 194) #[aV b S g d x l i wv v] #[]) else (Value.func (Fn.func 166) #[aV b S g d (nx (dr x)) l i wv v] #[])) = mv
  have Hmv := Lib.hid hmv
  clear hmv
  unfold aV
  unfold aO at h1
  unfold aV at H1
  obtain ⟨c0, c1, c2, c3, c4, c5, c6, c7, c8, f⟩ := aCells h1.swap
  clear h1
  go_enter Tryz.func185, Tryz.ntmps185
  go_wp2_with fail
  refine H1.out.mono ?_
  rintro e w1 ⟨rfl, hO⟩
  clear H1 c0 c1 c2 c3 c4 c5 c6 c7 c8 f
  have HM := Lib.hid (missed_any b S g d x l i wv v l0 l1 hO)
  unfold misV at HM
  rw [Hmv.out] at HM
  unfold aV at HM
  obtain ⟨c0, c1, c2, c3, c4, c5, c6, c7, c8, f⟩ := aCells hO.swap
  clear hO
  go_wp2_with fail
  refine HM.out.mono ?_
  rintro e w2 ⟨rfl, hO⟩
  clear HM c0 c1 c2 c3 c4 c5 c6 c7 c8 f
  go_wp2_with fail
  go_ret
  exact ⟨rfl, hO.under fun _ _ h => h.drop⟩
theorem leave_any (b i : Nat) (S g d x l wv v : Int) (hb : b ≤ 1000) (hl : b + 1 < ws.length) (hg : lg.length < 1000000) (h : Own w0 F0 (memA T m ws lg :: L) w) :
    Calls Tryz.prog 186 #[aV b S g d x l i wv v, .pointer (some ⟨m, 0, none⟩)] w fun e w' => e = .returned (.func (Fn.func 192) #[aV b S g d x l i wv v] #[]) ∧ Own w0 F0 (memA T m (ws.set (b + 1) (wrap64 (ws.getD (b + 1) 0 + 1))) (lg ++ [⟨2, (b : Int) + 1, 1, wrap64 (ws.getD (b + 1) 0 + 1), false⟩]) :: L) w' := by
  have h1 := (h.new (aO b S g d x l i wv v)).swap
  have H1 := Lib.hid (raiseBegun_any b S g d x l i wv v 1 _ hb hl hg rfl h1)
  generalize wrap64 (ws.getD (b + 1) 0 + 1) = n at H1 ⊢
  clear h hl hg
  unfold aV
  unfold aO at h1
  unfold aV at H1
  obtain ⟨c0, c1, c2, c3, c4, c5, c6, c7, c8, f⟩ := aCells h1.swap
  clear h1
  go_enter Tryz.func186, Tryz.ntmps186
  go_wp2_with fail
  refine H1.out.mono ?_
  rintro e w1 ⟨rfl, hO⟩
  clear H1 c0 c1 c2 c3 c4 c5 c6 c7 c8 f
  obtain ⟨c0, c1, c2, c3, c4, c5, c6, c7, c8, f⟩ := aCells hO.swap
  go_wp2_with fail
  go_ret
  exact ⟨rfl, hO.under fun _ _ h => h.drop⟩
theorem empty_yes (b i : Nat) (S g d x l wv v : Int) (hb : b ≤ 1000) (hi : i ≤ 8) (hl : b + 4 + i < ws.length) (hg : lg.length < 1000000) (v0 : -9223372036854775808 ≤ wv) (v1 : wv ≤ 9223372036854775807) (he : ws.getD (b + 4 + i) 0 = wv) (h : Own w0 F0 (memA T m ws lg :: L) w) :
    Calls Tryz.prog 192 #[aV b S g d x l i wv v, .pointer (some ⟨m, 0, none⟩)] w fun e w' => e = .returned (.func (Fn.func 196) #[aV b S g d x l i wv v] #[]) ∧ Own w0 F0 (memA T m (ws.set (b + 4 + i) (nxt wv 0)) (lg ++ [⟨3, (b : Int) + 4 + i, wv, nxt wv 0, true⟩]) :: L) w' := by
  have h1 := (h.new (aO b S g d x l i wv v)).swap
  have h2 := swap_any b i S g d x l wv v 0 hb hi hl hg (by decide) (by decide) v0 v1 h1
  rw [if_pos he, beq_t he] at h2
  have H1 := Lib.hid h2
  clear h2 h hl hg
  unfold aV
  unfold aO at h1
  unfold aV at H1
  obtain ⟨c0, c1, c2, c3, c4, c5, c6, c7, c8, f⟩ := aCells h1.swap
  clear h1
  go_enter Tryz.func192, Tryz.ntmps192
  go_wp2_with fail
  refine H1.out.mono ?_
  rintro e w1 ⟨rfl, hO⟩
  clear H1 c0 c1 c2 c3 c4 c5 c6 c7 c8 f
  obtain ⟨c0, c1, c2, c3, c4, c5, c6, c7, c8, f⟩ := aCells hO.swap
  go_wp2_with fail
  go_ret
  exact ⟨rfl, hO.under fun _ _ h => h.drop⟩
theorem empty_no (b i : Nat) (S g d x l wv v : Int) (hb : b ≤ 1000) (hi : i ≤ 8) (hl : b + 4 + i < ws.length) (hg : lg.length < 1000000) (v0 : -9223372036854775808 ≤ wv) (v1 : wv ≤ 9223372036854775807) (he : ws.getD (b + 4 + i) 0 ≠ wv) (h : Own w0 F0 (memA T m ws lg :: L) w) :
    Calls Tryz.prog 192 #[aV b S g d x l i wv v, .pointer (some ⟨m, 0, none⟩)] w fun e w' => e = .returned (.func (Fn.func 197) #[aV b S g d x l i wv v] #[]) ∧ Own w0 F0 (memA T m ws (lg ++ [⟨3, (b : Int) + 4 + i, wv, nxt wv 0, false⟩]) :: L) w' := by
  have h1 := (h.new (aO b S g d x l i wv v)).swap
  have h2 := swap_any b i S g d x l wv v 0 hb hi hl hg (by decide) (by decide) v0 v1 h1
  rw [if_neg he, beq_f he] at h2
  have H1 := Lib.hid h2
  clear h2 h hl hg
  unfold aV
  unfold aO at h1
  unfold aV at H1
  obtain ⟨c0, c1, c2, c3, c4, c5, c6, c7, c8, f⟩ := aCells h1.swap
  clear h1
  go_enter Tryz.func192, Tryz.ntmps192
  go_wp2_with fail
  refine H1.out.mono ?_
  rintro e w1 ⟨rfl, hO⟩
  clear H1 c0 c1 c2 c3 c4 c5 c6 c7 c8 f
  obtain ⟨c0, c1, c2, c3, c4, c5, c6, c7, c8, f⟩ := aCells hO.swap
  go_wp2_with fail
  go_ret
  exact ⟨rfl, hO.under fun _ _ h => h.drop⟩
theorem bring_any (b i : Nat) (S g d x l wv v : Int) (hb : b ≤ 1000) (hl : b < ws.length) (hg : lg.length < 1000000) (h : Own w0 F0 (memA T m ws lg :: L) w) :
    Calls Tryz.prog 196 #[aV b S g d x l i wv v, .pointer (some ⟨m, 0, none⟩)] w fun e w' => e = .returned (.func (Fn.func 201) #[aV b S g d x l i wv v] #[]) ∧ Own w0 F0 (memA T m (ws.set b (wrap64 (ws.getD b 0 + v))) (lg ++ [⟨2, (b : Int), v, wrap64 (ws.getD b 0 + v), false⟩]) :: L) w' := by
  have h1 := (h.new (aO b S g d x l i wv v)).swap
  have H1 := Lib.hid (raiseGlobal_any b S g d x l i wv v v _ hb hl hg rfl h1)
  generalize wrap64 (ws.getD b 0 + v) = n at H1 ⊢
  clear h hl hg
  unfold aV
  unfold aO at h1
  unfold aV at H1
  obtain ⟨c0, c1, c2, c3, c4, c5, c6, c7, c8, f⟩ := aCells h1.swap
  clear h1
  go_enter Tryz.func196, Tryz.ntmps196
  go_wp2_with fail
  refine H1.out.mono ?_
  rintro e w1 ⟨rfl, hO⟩
  clear H1 c0 c1 c2 c3 c4 c5 c6 c7 c8 f
  obtain ⟨c0, c1, c2, c3, c4, c5, c6, c7, c8, f⟩ := aCells hO.swap
  go_wp2_with fail
  go_ret
  exact ⟨rfl, hO.under fun _ _ h => h.drop⟩
theorem end_any (b i : Nat) (S g d x l wv v : Int) (hb : b ≤ 1000) (hl : b + 2 < ws.length) (hg : lg.length < 1000000) (h : Own w0 F0 (memA T m ws lg :: L) w) :
    Calls Tryz.prog 201 #[aV b S g d x l i wv v, .pointer (some ⟨m, 0, none⟩)] w fun e w' => e = .returned .nilFunc ∧ Own w0 F0 (memA T m (ws.set (b + 2) (wrap64 (ws.getD (b + 2) 0 + 1))) (lg ++ [⟨2, (b : Int) + 2, 1, wrap64 (ws.getD (b + 2) 0 + 1), false⟩]) :: L) w' := by
  have h1 := (h.new (aO b S g d x l i wv v)).swap
  have H1 := Lib.hid (raiseDone_any b S g d x l i wv v 1 _ hb hl hg rfl h1)
  generalize wrap64 (ws.getD (b + 2) 0 + 1) = n at H1 ⊢
  clear h hl hg
  unfold aV
  unfold aO at h1
  unfold aV at H1
  obtain ⟨c0, c1, c2, c3, c4, c5, c6, c7, c8, f⟩ := aCells h1.swap
  clear h1
  go_enter Tryz.func201, Tryz.ntmps201
  go_wp2_with fail
  refine H1.out.mono ?_
  rintro e w1 ⟨rfl, hO⟩
  clear H1 c0 c1 c2 c3 c4 c5 c6 c7 c8 f
  go_wp2_with fail
  go_ret
  exact ⟨rfl, hO.under fun _ _ h => h.drop⟩
theorem bringNothing_any (b i : Nat) (S g d x l wv v : Int) (hb : b ≤ 1000) (l0 : -9223372036854775808 ≤ x) (l1 : x ≤ 9223372036854775807) (hl : b + 2 < ws.length) (hg : lg.length < 1000000) (h : Own w0 F0 (memA T m ws lg :: L) w) :
    Calls Tryz.prog 197 #[aV b S g d x l i wv v, .pointer (some ⟨m, 0, none⟩)] w fun e w' => e = .returned (misV b S g d x l i wv v) ∧ Own w0 F0 (memA T m (ws.set (b + 2) (wrap64 (ws.getD (b + 2) 0 + 1))) (lg ++ [⟨2, (b : Int) + 2, 1, wrap64 (ws.getD (b + 2) 0 + 1), false⟩]) :: L) w' := by
  have h1 := (h.new (aO b S g d x l i wv v)).swap
  have H1 := Lib.hid (raiseDone_any b S g d x l i wv v 1 _ hb hl hg rfl h1)
  generalize wrap64 (ws.getD (b + 2) 0 + 1) = n at H1 ⊢
  clear h hl hg
  unfold misV
  generalize hmv : (if l < S then (Value.func (Fn.func 194) #[aV b S g d x l i wv v] #[]) else (Value.func (Fn.func 166) #[aV b S g d (nx (dr x)) l i wv v] #[])) = mv
  have Hmv := Lib.hid hmv
  clear hmv
  unfold aV
  unfold aO at h1
  unfold aV at H1
  obtain ⟨c0, c1, c2, c3, c4, c5, c6, c7, c8, f⟩ := aCells h1.swap
  clear h1
  go_enter Tryz.func197, Tryz.ntmps197
  go_wp2_with fail
  refine H1.out.mono ?_
  rintro e w1 ⟨rfl, hO⟩
  clear H1 c0 c1 c2 c3 c4 c5 c6 c7 c8 f
  have HM := Lib.hid (missed_any b S g d x l i wv v l0 l1 hO)
  unfold misV at HM
  rw [Hmv.out] at HM
  unfold aV at HM
  obtain ⟨c0, c1, c2, c3, c4, c5, c6, c7, c8, f⟩ := aCells hO.swap
  clear hO
  go_wp2_with fail
  refine HM.out.mono ?_
  rintro e w2 ⟨rfl, hO⟩
  clear HM c0 c1 c2 c3 c4 c5 c6 c7 c8 f
  go_wp2_with fail
  go_ret
  exact ⟨rfl, hO.under fun _ _ h => h.drop⟩
theorem widen_any (b i : Nat) (S g d x l wv v : Int) (hb : b ≤ 1000) (l0 : -9223372036854775808 ≤ x) (l1 : x ≤ 9223372036854775807) (hi : i ≤ 8) (hl : b + 3 < ws.length) (hg : lg.length < 1000000) (m0 : 0 ≤ l) (m1 : l ≤ 8) (h : Own w0 F0 (memA T m ws lg :: L) w) :
    Calls Tryz.prog 194 #[aV b S g d x l i wv v, .pointer (some ⟨m, 0, none⟩)] w fun e w' => e = .returned (.func (Fn.func 166) #[aV b S g d (nx (dr x)) l i wv v] #[]) ∧ Own w0 F0 (memA T m (if ws.getD (b + 3) 0 = l then ws.set (b + 3) (2 * l) else ws) (lg ++ [⟨3, (b : Int) + 3, l, 2 * l, ws.getD (b + 3) 0 == l⟩]) :: L) w' := by
  have h1 := (h.new (aO b S g d x l i wv v)).swap
  have e2 : (2 : Int) * l = IntKind.i64.wrap (2 * l) := (IntWalk.i64_in _ (by omega)).symm
  rw [e2]
  have HC := fun L2 w h => Lib.hid (Cas_y (w0 := w0) (F0 := F0) (L := L2) (T := T) (m := m) (ws := ws) (lg := lg) (w := w) (b + 3) ((b : Int) + 3) l (IntKind.i64.wrap (2 * l)) (by omega) hl hg h)
  generalize (ws.getD (b + 3) 0 == l) = q at HC ⊢
  generalize (if ws.getD (b + 3) 0 = l then ws.set (b + 3) (IntKind.i64.wrap (2 * l)) else ws) = ws' at HC ⊢
  clear e2
  have B0 : (0 : Int) ≤ b := by omega
  have B1 : (b : Int) ≤ 1000 := by omega
  have HS := fun w => Lib.hid (cLive_any b S B0 (by omega) w)
  have HA := fun L2 w h => Lib.hid (again_any (w0 := w0) (F0 := F0) (L := L2) (w := w) b S g d x l i wv v l0 l1 h)
  clear h hl hg hb hi l0 l1
  unfold cV at HS
  unfold aV at HA
  unfold aV
  unfold aO at h1
  have hO := h1.drew
  obtain ⟨c0, c1, c2, c3, c4, c5, c6, c7, c8, f⟩ := aCells hO.swap
  clear h1
  go_enter Tryz.func194, Tryz.ntmps194
  go_wp2_with fail
  go_region_held3 (fun w' => w'.cell? ⟨w.heap.size, 0, none⟩ = some (.int .i64 b) ∧ w'.cell? ⟨w.heap.size, 1, none⟩ = some (.int .i64 S) ∧ w'.cell? ⟨w.heap.size, 5, none⟩ = some (.int .i64 l)) (go_keep) (first
    | (go_at_call 176; refine (HS _).out.mono ?_; rintro e w2 ⟨rfl, hB⟩; have hO := Own.below (by with_reducible assumption) hB; obtain ⟨c0, c1, c2, c3, c4, c5, c6, c7, c8, f⟩ := aCells hO.swap)
    | (go_at_call 193; refine (HC _ _ (by with_reducible assumption)).out.mono ?_; rintro e w3 ⟨rfl, hO⟩; obtain ⟨c0, c1, c2, c3, c4, c5, c6, c7, c8, f⟩ := aCells hO.swap))
  all_goals
    have H2 := HA _ _ hO
    clear HA
    go_wp2_with fail
    refine H2.out.mono ?_
    rintro e w5 ⟨rfl, hO⟩
    clear H2 c0 c1 c2 c3 c4 c5 c6 c7 c8 f
    go_wp2_with fail
    go_ret
    exact ⟨rfl, hO.under fun _ _ h => h.drop⟩
end Go.Proofs.YtjohngpbggendaaGreat
end
