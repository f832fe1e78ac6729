/- What accesses make of words and of the log, one behind the other. -/
import Derived.Test.YtlgobicbclihfaaMemOps
namespace Go.Proofs.Ytlgobicbclihfaa
open Go.ChangeShapes Go.WideShapes Go.ChangeAt Go.RowKit Go.Shelf
set_option linter.unusedVariables false
def nxt (o : Opn) (ws : List Int) : List Int := (opS o ws []).ws
def ent (o : Opn) (ws : List Int) : Acc :=
  if o.kind = 1 then ⟨1, o.w, ws.getD o.w.toNat 0, 0, false⟩
  else if o.kind = 2 then ⟨2, o.w, o.a, wrap64 (ws.getD o.w.toNat 0 + o.a), false⟩
  else if o.kind = 3 then ⟨3, o.w, o.a, o.b, decide (ws.getD o.w.toNat 0 = o.a)⟩
  else ⟨4, o.w, o.a, 0, false⟩
theorem opS_nxt (o : Opn) (ws : List Int) (lg : List Acc) : (opS o ws lg).ws = nxt o ws := by
  unfold nxt opS
  split
  · rfl
  · split
    · rfl
    · split
      · split <;> rfl
      · split <;> rfl
theorem opS_ent (o : Opn) (ws : List Int) (lg : List Acc) (h : o.kind ≠ 5) (h2 : 1 ≤ o.kind) (h3 : o.kind ≤ 5) : (opS o ws lg).lg = lg ++ [ent o ws] := by
  unfold ent opS
  split
  · rfl
  · split
    · rfl
    · split
      · split
        · rename_i h4; rw [decide_eq_true h4]
        · rename_i h4; rw [decide_eq_false h4]
      · split
        · rfl
        · omega
def run (ws : List Int) (al : List Opn) : List Int := al.foldl (fun ws o => nxt o ws) ws
def logs (ws : List Int) : List Opn → List Acc
  | [] => []
  | o :: al => ent o ws :: logs (nxt o ws) al
theorem run_snoc (ws : List Int) (al : List Opn) (o : Opn) : run ws (al ++ [o]) = nxt o (run ws al) := by simp [run]
theorem logs_snoc (ws : List Int) (al : List Opn) (o : Opn) : logs ws (al ++ [o]) = logs ws al ++ [ent o (run ws al)] := by
  induction al generalizing ws with
  | nil => rfl
  | cons a al ih => simp only [List.cons_append, logs, ih]; rfl
theorem logs_len (ws : List Int) (al : List Opn) : (logs ws al).length = al.length := by
  induction al generalizing ws with
  | nil => rfl
  | cons a al ih => simp [logs, ih]
theorem logs_get (ws : List Int) (al : List Opn) (i : Nat) (h : i < al.length) : (logs ws al).getD i ⟨0, 0, 0, 0, false⟩ = ent (al.getD i default) (run ws (al.take i)) := by
  induction al generalizing ws i with
  | nil => simp at h
  | cons a al ih =>
    cases i with
    | zero => rfl
    | succ i =>
      have := ih (nxt a ws) i (by simpa using h)
      simpa [logs, run] using this
theorem run_take (ws : List Int) (al : List Opn) (i : Nat) (h : i < al.length) : run ws (al.take (i + 1)) = nxt (al.getD i default) (run ws (al.take i)) := by
  rw [List.take_succ_eq_append_getElem h, run_snoc]
  simp [List.getD, h]
theorem nxt_len (o : Opn) (ws : List Int) : (nxt o ws).length = ws.length := opS_len o ws []
theorem run_len (al : List Opn) (ws : List Int) : (run ws al).length = ws.length := by
  induction al generalizing ws with
  | nil => rfl
  | cons a al ih => simp only [run, List.foldl_cons] at ih ⊢; rw [ih, nxt_len]
variable {w0 w w' : World} {F0 : Nat → Prop} {L : List Asn}
theorem Own.rowAt {v : Value} {e : TypeId} {size n : Nat} {xs : List Value} (h : Own w0 F0 (row v e size n xs :: L) w) : RowAt w v n xs := by
  have hr := h.isRow
  rcases hr.2 with ⟨rfl, rfl⟩ | ⟨g, cap, cur, rfl, _⟩
  · exact Or.inl ⟨rfl, rfl⟩
  · exact Or.inr ⟨⟨g, 0, none⟩, cap, rfl, fun j u hu => hr.cells rfl j u hu⟩
/-- An entry of a log, as it lies in memory. -/
def AccAt (w : World) (b off : Nat) (x : Acc) : Prop := w.cell? ⟨b, off, none⟩ = some (.int .i64 x.kind) ∧ w.cell? ⟨b, off + 1, none⟩ = some (.int .i64 x.w) ∧ w.cell? ⟨b, off + 2, none⟩ = some (.int .i64 x.a) ∧ w.cell? ⟨b, off + 3, none⟩ = some (.int .i64 x.b) ∧ w.cell? ⟨b, off + 4, none⟩ = some (.bool x.ok)
theorem RowAt.acc {W : World} {p : Option Addr} {cap k : Nat} {l : List Acc} (h : RowAt W (.slice p l.length cap) l.length (logC l)) (hk : k < l.length) : ∃ b off, p = some ⟨b, off, none⟩ ∧ AccAt W b (off + k * 5) (l.getD k ⟨0, 0, 0, 0, false⟩) := by
  obtain ⟨b, off, hp, hb, hc⟩ := h.at (by rw [logC_len]; omega) (by omega)
  have e := fun i hi => logC_get l k i hk hi
  exact ⟨b, off, hp, hc (k * 5 + 0) _ (e 0 (by omega)), hc (k * 5 + 1) _ (e 1 (by omega)), hc (k * 5 + 2) _ (e 2 (by omega)), hc (k * 5 + 3) _ (e 3 (by omega)), hc (k * 5 + 4) _ (e 4 (by omega))⟩
theorem Try.info_op : (Try.prog.info? 30).map (fun i => (i.zero, i.size, i.bytes)) = some (some (.agg #[.int .i64 0, .int .i64 0, .int .i64 0, .int .i64 0]), 4, 32) := by kernel_rfl
theorem opsC_snoc (l : List Opn) (o : Opn) : opsC (l ++ [o]) = opsC l ++ [.int .i64 o.kind, .int .i64 o.w, .int .i64 o.a, .int .i64 o.b] := by simp [opsC]
end Go.Proofs.Ytlgobicbclihfaa
