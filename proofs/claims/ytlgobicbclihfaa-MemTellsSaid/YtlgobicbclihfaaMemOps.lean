/- Accesses as data: right, done and want. -/
import Derived.Test.YtlgobicbclihfaaMemPlay
namespace Go.Proofs.Ytlgobicbclihfaa
open Go.ChangeShapes Go.WideShapes Go.ChangeAt Go.RowKit Go.Shelf
set_option linter.unusedVariables false
variable {w0 w w' : World} {F0 : Nat → Prop} {L : List Asn} {T : TypeId} {m : Nat} {ws : List Int} {l : List Acc}
structure Opn where
  kind : Int
  w : Int
  a : Int
  b : Int
instance : Inhabited Opn := ⟨⟨0, 0, 0, 0⟩⟩
def opV (o : Opn) : Value := .agg #[.int .i64 o.kind, .int .i64 o.w, .int .i64 o.a, .int .i64 o.b]
def Rt (o : Opn) (n : Nat) : Prop := 1 ≤ o.kind ∧ o.kind ≤ 5 ∧ 0 ≤ o.w ∧ o.w < n
theorem right_yes (o : Opn) (n : Nat) (h : Rt o n) (w : World) : Calls Try.prog 12 #[opV o, .int .i64 n] w fun e w' => e = .returned (.bool true) ∧ Below w.heap.size w w' := by
  obtain ⟨h1, h2, h3, h4⟩ := h
  obtain ⟨k, i, a, b⟩ := o
  simp only at h1 h2 h3 h4
  simp only [opV]
  go_enter Try.func12, Try.ntmps12
  go_wp2
  go_ret
  exact ⟨rfl, (Below.refl _ _).alloc (Nat.le_refl _) _⟩
theorem right_no (o : Opn) (n : Nat) (h : ¬ Rt o n) (w : World) : Calls Try.prog 12 #[opV o, .int .i64 n] w fun e w' => e = .returned (.bool false) ∧ Below w.heap.size w w' := by
  obtain ⟨k, i, a, b⟩ := o
  unfold Rt at h
  simp only at h
  simp only [opV]
  by_cases h1 : 1 ≤ k
  · by_cases h2 : k ≤ 5
    · by_cases h3 : 0 ≤ i
      · have h4 : decide (i < (n : Int)) = false := by simp; omega
        clear h
        go_enter Try.func12, Try.ntmps12
        go_wp2
        go_ret
        exact ⟨rfl, (Below.refl _ _).alloc (Nat.le_refl _) _⟩
      · have h4 : decide (0 ≤ i) = false := by simp; omega
        clear h h3
        go_enter Try.func12, Try.ntmps12
        go_wp2
        go_ret
        exact ⟨rfl, (Below.refl _ _).alloc (Nat.le_refl _) _⟩
    · have h4 : decide (k ≤ 5) = false := by simp; omega
      clear h h2
      go_enter Try.func12, Try.ntmps12
      go_wp2
      go_ret
      exact ⟨rfl, (Below.refl _ _).alloc (Nat.le_refl _) _⟩
  · have h4 : decide (1 ≤ k) = false := by simp; omega
    clear h h1
    go_enter Try.func12, Try.ntmps12
    go_wp2
    go_ret
    exact ⟨rfl, (Below.refl _ _).alloc (Nat.le_refl _) _⟩
/-- What an access makes of the words and of the log, and what it tells. -/
structure St where
  ws : List Int
  lg : List Acc
  x : Int
  p : Bool
def opS (o : Opn) (ws : List Int) (lg : List Acc) : St :=
  if o.kind = 1 then ⟨ws, lg ++ [⟨1, o.w, ws.getD o.w.toNat 0, 0, false⟩], ws.getD o.w.toNat 0, false⟩
  else if o.kind = 2 then ⟨ws.set o.w.toNat (wrap64 (ws.getD o.w.toNat 0 + o.a)), lg ++ [⟨2, o.w, o.a, wrap64 (ws.getD o.w.toNat 0 + o.a), false⟩], wrap64 (ws.getD o.w.toNat 0 + o.a), false⟩
  else if o.kind = 3 then (if ws.getD o.w.toNat 0 = o.a then ⟨ws.set o.w.toNat o.b, lg ++ [⟨3, o.w, o.a, o.b, true⟩], 0, true⟩ else ⟨ws, lg ++ [⟨3, o.w, o.a, o.b, false⟩], 0, false⟩)
  else if o.kind = 4 then ⟨ws.set o.w.toNat o.a, lg ++ [⟨4, o.w, o.a, 0, false⟩], 0, false⟩
  else ⟨ws.set o.w.toNat o.a, lg, 0, false⟩
theorem opS_len (o : Opn) (ws : List Int) (lg : List Acc) : (opS o ws lg).ws.length = ws.length := by
  unfold opS
  split
  · rfl
  · split
    · simp
    · split
      · split
        · simp
        · rfl
      · split <;> simp
theorem opS_log (o : Opn) (ws : List Int) (lg : List Acc) : (opS o ws lg).lg.length ≤ lg.length + 1 := by
  unfold opS
  split
  · simp
  · split
    · simp
    · split
      · split <;> simp
      · split <;> simp
def DoneRet (w0 : World) (F0 : Nat → Prop) (L : List Asn) (T : TypeId) (m : Nat) (s : St) (e : Ending) (w : World) : Prop :=
  e = .returned (.tuple #[.int .i64 s.x, .bool s.p]) ∧ Own w0 F0 (memA T m s.ws s.lg :: L) w
theorem done_any (o : Opn) (hr : Rt o ws.length) (hl : l.length < 1000000) (h : Own w0 F0 (memA T m ws l :: L) w) :
    Calls Try.prog 13 #[.pointer (some ⟨m, 0, none⟩), opV o] w (DoneRet w0 F0 L T m (opS o ws l)) := by
  obtain ⟨k, i, a, b⟩ := o
  obtain ⟨h1, h2, h3, h4⟩ := hr
  simp only at h1 h2 h3 h4
  obtain ⟨j, rfl⟩ := Int.eq_ofNat_of_zero_le h3
  have hj : j < ws.length := by omega
  have hN := h.alloc (.cells #[.int .i64 k, .int .i64 j, .int .i64 a, .int .i64 b] 30)
  have hk : k = 1 ∨ k = 2 ∨ k = 3 ∨ k = 4 ∨ k = 5 := by omega
  clear h h1 h2 h3 h4
  rcases hk with rfl | rfl | rfl | rfl | rfl
  · have H := Lib.hid (Load_any j hj hl hN)
    simp only [opV, opS, Int.toNat_natCast]
    generalize ws.getD j 0 = x at H ⊢
    clear hN hj
    go_enter Try.func13, Try.ntmps13
    go_wp2_with fail
    refine H.out.mono ?_
    rintro e w' ⟨rfl, hO⟩
    have HO := Lib.hid hO
    clear H hO
    go_wp2_with fail
    go_ret2
    exact ⟨rfl, HO.out⟩
  · have H := Lib.hid (Add_any j a hj hl hN)
    simp only [opV, opS, Int.toNat_natCast]
    generalize wrap64 (ws.getD j 0 + a) = x at H ⊢
    clear hN hj
    go_enter Try.func13, Try.ntmps13
    go_wp2_with fail
    refine H.out.mono ?_
    rintro e w' ⟨rfl, hO⟩
    have HO := Lib.hid hO
    clear H hO
    go_wp2_with fail
    go_ret2
    exact ⟨rfl, HO.out⟩
  · by_cases he : ws.getD j 0 = a
    · have H := Lib.hid (Cas_yes j a b hj hl he hN)
      have HS : opS ⟨3, j, a, b⟩ ws l = ⟨ws.set j b, l ++ [⟨3, j, a, b, true⟩], 0, true⟩ := by simp only [opS, Int.toNat_natCast]; rw [if_pos he]; rfl
      rw [HS]
      simp only [opV]
      clear hN hj he HS
      go_enter Try.func13, Try.ntmps13
      go_wp2_with fail
      refine H.out.mono ?_
      rintro e w' ⟨rfl, hO⟩
      have HO := Lib.hid hO
      clear H hO
      go_wp2_with fail
      go_ret2
      exact ⟨rfl, HO.out⟩
    · have H := Lib.hid (Cas_no j a b hj hl he hN)
      have HS : opS ⟨3, j, a, b⟩ ws l = ⟨ws, l ++ [⟨3, j, a, b, false⟩], 0, false⟩ := by simp only [opS, Int.toNat_natCast]; rw [if_neg he]; rfl
      rw [HS]
      simp only [opV]
      clear hN hj he HS
      go_enter Try.func13, Try.ntmps13
      go_wp2_with fail
      refine H.out.mono ?_
      rintro e w' ⟨rfl, hO⟩
      have HO := Lib.hid hO
      clear H hO
      go_wp2_with fail
      go_ret2
      exact ⟨rfl, HO.out⟩
  · have H := Lib.hid (Store_any j a hj hl hN)
    simp only [opV, opS, Int.toNat_natCast]
    clear hN hj
    go_enter Try.func13, Try.ntmps13
    go_wp2_with fail
    refine H.out.mono ?_
    rintro e w' ⟨rfl, hO⟩
    have HO := Lib.hid hO
    clear H hO
    go_wp2_with fail
    go_ret2
    exact ⟨rfl, HO.out⟩
  · have H := Lib.hid (Poke_yes j a hj hN)
    simp only [opV, opS, Int.toNat_natCast]
    clear hN hj
    go_enter Try.func13, Try.ntmps13
    go_wp2_with fail
    refine H.out.mono ?_
    rintro e w' ⟨rfl, hO⟩
    have HO := Lib.hid hO
    clear H hO
    go_wp2_with fail
    go_ret2
    exact ⟨rfl, HO.out⟩
theorem want_any (o : Opn) (hn : ws.length ≤ 1000000) (hr : Rt o ws.length) (hl : l.length < 1000000) (h : Own w0 F0 (memA T m ws l :: L) w) :
    Calls Try.prog 14 #[.pointer (some ⟨m, 0, none⟩), opV o] w (DoneRet w0 F0 L T m (opS o ws l)) := by
  obtain ⟨k, i, a, b⟩ := o
  obtain ⟨h1, h2, h3, h4⟩ := hr
  simp only at h1 h2 h3 h4
  obtain ⟨j, rfl⟩ := Int.eq_ofNat_of_zero_le h3
  have hj : j < ws.length := by omega
  have hN := h.alloc (.cells #[.int .i64 k, .int .i64 j, .int .i64 a, .int .i64 b] 30)
  have hk : k = 1 ∨ k = 2 ∨ k = 3 ∨ k = 4 ∨ k = 5 := by omega
  clear h h1 h2 h3 h4
  rcases hk with rfl | rfl | rfl | rfl | rfl
  · have H := Lib.hid (rLoad_any j hj hl hN)
    simp only [opV, opS, Int.toNat_natCast]
    generalize ws.getD j 0 = x at H ⊢
    clear hN hj
    go_enter Try.func14, Try.ntmps14
    go_wp2_with fail
    refine H.out.mono ?_
    rintro e w' ⟨rfl, hO⟩
    have HO := Lib.hid hO
    clear H hO
    go_wp2_with fail
    go_ret2
    exact ⟨rfl, HO.out⟩
  · have H := Lib.hid (rAdd_any j a hj hn hl hN)
    simp only [opV, opS, Int.toNat_natCast]
    generalize wrap64 (ws.getD j 0 + a) = x at H ⊢
    clear hN hj
    go_enter Try.func14, Try.ntmps14
    go_wp2_with fail
    refine H.out.mono ?_
    rintro e w' ⟨rfl, hO⟩
    have HO := Lib.hid hO
    clear H hO
    go_wp2_with fail
    go_ret2
    exact ⟨rfl, HO.out⟩
  · by_cases he : ws.getD j 0 = a
    · have H := Lib.hid (rCas_yes j a b hj hn hl he hN)
      have HS : opS ⟨3, j, a, b⟩ ws l = ⟨ws.set j b, l ++ [⟨3, j, a, b, true⟩], 0, true⟩ := by simp only [opS, Int.toNat_natCast]; rw [if_pos he]; rfl
      rw [HS]
      simp only [opV]
      clear hN hj he HS
      go_enter Try.func14, Try.ntmps14
      go_wp2_with fail
      refine H.out.mono ?_
      rintro e w' ⟨rfl, hO⟩
      have HO := Lib.hid hO
      clear H hO
      go_wp2_with fail
      go_ret2
      exact ⟨rfl, HO.out⟩
    · have H := Lib.hid (rCas_no j a b hj hl he hN)
      have HS : opS ⟨3, j, a, b⟩ ws l = ⟨ws, l ++ [⟨3, j, a, b, false⟩], 0, false⟩ := by simp only [opS, Int.toNat_natCast]; rw [if_neg he]; rfl
      rw [HS]
      simp only [opV]
      clear hN hj he HS
      go_enter Try.func14, Try.ntmps14
      go_wp2_with fail
      refine H.out.mono ?_
      rintro e w' ⟨rfl, hO⟩
      have HO := Lib.hid hO
      clear H hO
      go_wp2_with fail
      go_ret2
      exact ⟨rfl, HO.out⟩
  · have H := Lib.hid (rStore_any j a hn hl hN)
    simp only [opV, opS, Int.toNat_natCast]
    clear hN hj
    go_enter Try.func14, Try.ntmps14
    go_wp2_with fail
    refine H.out.mono ?_
    rintro e w' ⟨rfl, hO⟩
    have HO := Lib.hid hO
    clear H hO
    go_wp2_with fail
    go_ret2
    exact ⟨rfl, HO.out⟩
  · have H := Lib.hid (rPoke_any j a hn hN)
    simp only [opV, opS, Int.toNat_natCast]
    clear hN hj
    go_enter Try.func14, Try.ntmps14
    go_wp2_with fail
    refine H.out.mono ?_
    rintro e w' ⟨rfl, hO⟩
    have HO := Lib.hid hO
    clear H hO
    go_wp2_with fail
    go_ret2
    exact ⟨rfl, HO.out⟩
/-- Accesses that came in. -/
def opsC (l : List Opn) : List Value := l.flatMap fun o => [.int .i64 o.kind, .int .i64 o.w, .int .i64 o.a, .int .i64 o.b]
def opsOf (rows : List (List Int)) : List Opn := rows.map fun r => ⟨r.getD 0 0, r.getD 1 0, r.getD 2 0, r.getD 3 0⟩
theorem opsOf_C : ∀ {rows : List (List Int)}, (∀ r ∈ rows, r.length = 4) → rowsC [.i64, .i64, .i64, .i64] rows = opsC (opsOf rows)
  | [], _ => rfl
  | r :: rows, h => by
    have ih := opsOf_C (rows := rows) (fun r hr => h r (by simp [hr]))
    have hr := h r (by simp)
    match r, hr with
    | [a, b, c, d], _ =>
      simp only [rowsC, List.flatMap_cons, opsC, opsOf, List.map_cons] at ih ⊢
      rw [ih]; rfl
theorem opsC_get (l : List Opn) : ∀ (j i : Nat), j < l.length → i < 4 → (opsC l)[j * 4 + i]? = [Value.int .i64 (l.getD j default).kind, .int .i64 (l.getD j default).w, .int .i64 (l.getD j default).a, .int .i64 (l.getD j default).b][i]? := by
  induction l with
  | nil => intro j i hj; simp at hj
  | cons x l ih =>
    intro j i hj hi
    cases j with
    | zero =>
      simp only [opsC, List.flatMap_cons]
      rw [List.getElem?_append_left (by simp; omega)]
      simp
    | succ j =>
      have := ih j i (by simpa using hj) hi
      simp only [opsC, List.flatMap_cons] at this ⊢
      rw [List.getElem?_append_right (by simp; omega), show (j + 1) * 4 + i - [Value.int .i64 x.kind, .int .i64 x.w, .int .i64 x.a, .int .i64 x.b].length = j * 4 + i by simp; omega, this]
      rfl
theorem opsC_len (l : List Opn) : (opsC l).length = l.length * 4 := by
  induction l with
  | nil => rfl
  | cons a l ih => simp only [opsC, List.flatMap_cons, List.length_append, List.length_cons] at ih ⊢; rw [ih]; simp; omega
/-- An access as it lies in memory. -/
def OpAt (W : World) (b off : Nat) (o : Opn) : Prop := b < W.heap.size ∧ W.cell? ⟨b, off, none⟩ = some (.int .i64 o.kind) ∧ W.cell? ⟨b, off + 1, none⟩ = some (.int .i64 o.w) ∧ W.cell? ⟨b, off + 2, none⟩ = some (.int .i64 o.a) ∧ W.cell? ⟨b, off + 3, none⟩ = some (.int .i64 o.b)
theorem OpAt.later {W w : World} {b off : Nat} {o : Opn} (h : OpAt W b off o) (hB : Below W.heap.size W w) : w.cell? ⟨b, off, none⟩ = some (.int .i64 o.kind) ∧ w.cell? ⟨b, off + 1, none⟩ = some (.int .i64 o.w) ∧ w.cell? ⟨b, off + 2, none⟩ = some (.int .i64 o.a) ∧ w.cell? ⟨b, off + 3, none⟩ = some (.int .i64 o.b) := by
  obtain ⟨h0, h1, h2, h3, h4⟩ := h
  exact ⟨by rw [hB.cell h0]; exact h1, by rw [hB.cell h0]; exact h2, by rw [hB.cell h0]; exact h3, by rw [hB.cell h0]; exact h4⟩
/-- Access k of a slice of them, as a walk reads it. -/
theorem RowAt.op {W : World} {p : Option Addr} {cap k : Nat} {l : List Opn} (h : RowAt W (.slice p l.length cap) l.length (opsC l)) (hk : k < l.length) : ∃ b off, p = some ⟨b, off, none⟩ ∧ OpAt W b (off + k * 4) (l.getD k default) := by
  obtain ⟨b, off, hp, hb, hc⟩ := h.at (by rw [opsC_len]; omega) (by omega)
  have e := fun i hi => opsC_get l k i hk hi
  exact ⟨b, off, hp, hb, hc (k * 4 + 0) _ (e 0 (by omega)), hc (k * 4 + 1) _ (e 1 (by omega)), hc (k * 4 + 2) _ (e 2 (by omega)), hc (k * 4 + 3) _ (e 3 (by omega))⟩
end Go.Proofs.Ytlgobicbclihfaa
