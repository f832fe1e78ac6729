/- Texts of elder layers, one behind the other: MemApi, MemBelow, Base8, PoolMath, PoolMath2. -/
import Derived.Test.YtjfjjmlocgmicaaGreatB4
import Derived.Shelf.Abstract
section
namespace Go.Proofs.YtjfjjmlocgmicaaGreat
open Go.ChangeShapes Go.WideShapes Go.ChangeAt Go.RowKit Go.Shelf
set_option linter.unusedVariables false
variable {w0 w w' : World} {F0 : Nat → Prop} {L : List Asn} {T : TypeId} {m : Nat} {ws : List Int} {l : List Acc}

theorem acc_field2 (k i a b o : Value) (w : World) : (Instr.field 104 (.agg #[k, i, a, b, o]) 2).run Tryz.prog w = .ok a w := by kernel_rfl
theorem acc_field3 (k i a b o : Value) (w : World) : (Instr.field 104 (.agg #[k, i, a, b, o]) 3).run Tryz.prog w = .ok b w := by kernel_rfl
theorem acc_field4 (k i a b o : Value) (w : World) : (Instr.field 104 (.agg #[k, i, a, b, o]) 4).run Tryz.prog w = .ok o w := by kernel_rfl
theorem Load_any (i : Nat) (hi : i < ws.length) (hl : l.length < 1000000) (h : Own w0 F0 (memA T m ws l :: L) w) :
    Calls Tryz.prog 99 #[.pointer (some ⟨m, 0, none⟩), .int .i64 i] w fun e w' =>
      e = .returned (.int .i64 (ws.getD i 0)) ∧ Own w0 F0 (memA T m ws (l ++ [⟨1, i, ws.getD i 0, 0, false⟩]) :: L) w' := by
  have hs : ws.set i (ws.getD i 0) = ws := by
    apply List.ext_getElem?
    intro k
    rw [List.getElem?_set]
    split
    · rename_i hk; subst hk; simp [hi]
    · rfl
  have H := Lib.hid (access_any (k := 1) (a := ws.getD i 0) (b := 0) (y := ws.getD i 0) (ok := false) 130 #[] (enters_of Tryz.func130 (by kernel_rfl) rfl) i hi hl (fun B w1 ⟨cur, e, ho, hc⟩ => accLoad B i _ w1 (ho.cell hc)) h)
  have Hs := Lib.hid hs
  clear hs
  generalize ws.getD i 0 = x at H Hs ⊢
  go_enter Tryz.func99, Tryz.ntmps99
  go_wp2_with fail
  refine H.out.mono ?_
  rintro e w' ⟨rfl, hO⟩
  unfold accV
  have af := acc_field2
  rw [Hs.out] at hO
  go_wp2_with fail
  go_ret
  exact ⟨rfl, hO⟩
theorem Add_any (i : Nat) (d : Int) (hi : i < ws.length) (hl : l.length < 1000000) (h : Own w0 F0 (memA T m ws l :: L) w) :
    Calls Tryz.prog 175 #[.pointer (some ⟨m, 0, none⟩), .int .i64 i, .int .i64 d] w fun e w' =>
      e = .returned (.int .i64 (wrap64 (ws.getD i 0 + d))) ∧ Own w0 F0 (memA T m (ws.set i (wrap64 (ws.getD i 0 + d))) (l ++ [⟨2, i, d, wrap64 (ws.getD i 0 + d), false⟩]) :: L) w' := by
  have h1 := (h.new (.cells #[.int .i64 d] 3)).swap
  have H := Lib.hid (access_any (k := 2) (a := d) (b := wrap64 (ws.getD i 0 + d)) (y := wrap64 (ws.getD i 0 + d)) (ok := false) 180 #[.pointer (some ⟨w.heap.size, 0, none⟩)] (enters_of Tryz.func180 (by kernel_rfl) rfl) i hi hl
    (fun B w1 ⟨cur, e, ho, hc⟩ => accAdd B i w.heap.size _ d w1 (ho.cell hc) ho.unfrozen (ho.swap.cell (i := 0) rfl) ho.swap.ne) h1)
  generalize wrap64 (ws.getD i 0 + d) = y at H ⊢
  go_enter Tryz.func175, Tryz.ntmps175
  go_wp2_with fail
  refine H.out.mono ?_
  rintro e w' ⟨rfl, hO⟩
  unfold accV
  have af := acc_field3
  go_wp2_with fail
  go_ret
  exact ⟨rfl, hO.under fun _ _ h => h.drop⟩
theorem Store_any (i : Nat) (d : Int) (hi : i < ws.length) (hl : l.length < 1000000) (h : Own w0 F0 (memA T m ws l :: L) w) :
    Calls Tryz.prog 159 #[.pointer (some ⟨m, 0, none⟩), .int .i64 i, .int .i64 d] w fun e w' =>
      e = .returned (.tuple #[]) ∧ Own w0 F0 (memA T m (ws.set i d) (l ++ [⟨4, i, d, 0, false⟩]) :: L) w' := by
  have h1 := (h.new (.cells #[.int .i64 d] 3)).swap
  have H := Lib.hid (access_any (k := 4) (a := d) (b := 0) (y := d) (ok := false) 171 #[.pointer (some ⟨w.heap.size, 0, none⟩)] (enters_of Tryz.func171 (by kernel_rfl) rfl) i hi hl
    (fun B w1 ⟨cur, e, ho, hc⟩ => accStore B i w.heap.size _ d w1 (ho.cell hc) ho.unfrozen (ho.swap.cell (i := 0) rfl) ho.swap.ne) h1)
  go_enter Tryz.func159, Tryz.ntmps159
  go_wp2_with fail
  refine H.out.mono ?_
  rintro e w' ⟨rfl, hO⟩
  unfold accV
  go_wp2_with fail
  go_end0
  exact ⟨rfl, hO.under fun _ _ h => h.drop⟩
theorem Cas_yes (i : Nat) (o x : Int) (hi : i < ws.length) (hl : l.length < 1000000) (he : ws.getD i 0 = o) (h : Own w0 F0 (memA T m ws l :: L) w) :
    Calls Tryz.prog 132 #[.pointer (some ⟨m, 0, none⟩), .int .i64 i, .int .i64 o, .int .i64 x] w fun e w' =>
      e = .returned (.bool true) ∧ Own w0 F0 (memA T m (ws.set i x) (l ++ [⟨3, i, o, x, true⟩]) :: L) w' := by
  have h1 := ((h.new (.cells #[.int .i64 o] 3)).new (.cells #[.int .i64 x] 3)).p2
  rw [World.size_alloc] at h1
  have H := Lib.hid (access_any (k := 3) (a := o) (b := x) (y := x) (ok := true) 142 #[.pointer (some ⟨w.heap.size, 0, none⟩), .pointer (some ⟨w.heap.size + 1, 0, none⟩)] (enters_of Tryz.func142 (by kernel_rfl) rfl) i hi hl
    (fun B w1 ⟨cur, e, ho, hc⟩ => accCas_yes B i w.heap.size (w.heap.size + 1) o x w1 (by rw [← he]; exact ho.cell hc) ho.unfrozen (ho.p2.cell (i := 0) rfl) (ho.swap.cell (i := 0) rfl) ho.p2.ne ho.swap.ne) h1)
  clear he
  go_enter Tryz.func132, Tryz.ntmps132
  go_wp2_with fail
  refine H.out.mono ?_
  rintro e w' ⟨rfl, hO⟩
  unfold accV
  have af := acc_field4
  go_wp2_with fail
  go_ret
  exact ⟨rfl, hO.under fun _ _ h => h.drop.drop⟩
theorem Cas_no (i : Nat) (o x : Int) (hi : i < ws.length) (hl : l.length < 1000000) (he : ws.getD i 0 ≠ o) (h : Own w0 F0 (memA T m ws l :: L) w) :
    Calls Tryz.prog 132 #[.pointer (some ⟨m, 0, none⟩), .int .i64 i, .int .i64 o, .int .i64 x] w fun e w' =>
      e = .returned (.bool false) ∧ Own w0 F0 (memA T m ws (l ++ [⟨3, i, o, x, false⟩]) :: L) w' := by
  have hs : ws.set i (ws.getD i 0) = ws := by
    apply List.ext_getElem?
    intro k
    rw [List.getElem?_set]
    split
    · rename_i hk; subst hk; simp [hi]
    · rfl
  have h1 := ((h.new (.cells #[.int .i64 o] 3)).new (.cells #[.int .i64 x] 3)).p2
  rw [World.size_alloc] at h1
  have H := Lib.hid (access_any (k := 3) (a := o) (b := x) (y := ws.getD i 0) (ok := false) 142 #[.pointer (some ⟨w.heap.size, 0, none⟩), .pointer (some ⟨w.heap.size + 1, 0, none⟩)] (enters_of Tryz.func142 (by kernel_rfl) rfl) i hi hl
    (fun B w1 ⟨cur, e, ho, hc⟩ => accCas_no B i w.heap.size (w.heap.size + 1) _ o x w1 (beq_eq_false_iff_ne.2 he) (ho.cell hc) (ho.p2.cell (i := 0) rfl) (ho.swap.cell (i := 0) rfl)) h1)
  rw [hs] at H
  clear he hs
  go_enter Tryz.func132, Tryz.ntmps132
  go_wp2_with fail
  refine H.out.mono ?_
  rintro e w' ⟨rfl, hO⟩
  unfold accV
  have af := acc_field4
  go_wp2_with fail
  go_ret
  exact ⟨rfl, hO.under fun _ _ h => h.drop.drop⟩
end Go.Proofs.YtjfjjmlocgmicaaGreat
end
section
namespace Go.Proofs.YtjfjjmlocgmicaaGreat
open Go.ChangeShapes Go.WideShapes Go.ChangeAt Go.RowKit Go.Shelf
set_option linter.unusedVariables false
variable {w0 w w' : World} {F0 : Nat → Prop} {L : List Asn} {T : TypeId} {m : Nat} {ws : List Int} {l : List Acc}
theorem CloneI_b {v : Value} (zs : List Int) (hn : zs.length ≤ 1000000) (h : Own w0 F0 (row v 3 1 zs.length (intC zs) :: L) w) :
    Calls Tryz.prog 63 #[v] w (RetRow w (fun _ => False) [] 3 1 zs.length (intC zs)) := by
  have hr := h.isRow
  rcases hr.2 with ⟨rfl, h0⟩ | ⟨g, cap, cur, rfl, _⟩
  · obtain rfl : zs = [] := List.eq_nil_of_length_eq_zero h0
    exact CloneI_none (Own.start w)
  · exact CloneI_some ⟨g, 0, none⟩ _ cap zs rfl hn (fun j u hu => hr.cells rfl j u hu) (Own.start w)
theorem CloneL_b {v : Value} (zs : List Acc) (hn : zs.length ≤ 1000000) (h : Own w0 F0 (row v 104 5 zs.length (logC zs) :: L) w) :
    Calls Tryz.prog 62 #[v] w (RetRow w (fun _ => False) [] 104 5 zs.length (logC zs)) := by
  have hr := h.isRow
  rcases hr.2 with ⟨rfl, h0⟩ | ⟨g, cap, cur, rfl, _⟩
  · obtain rfl : zs = [] := List.eq_nil_of_length_eq_zero h0
    exact CloneL_none (Own.start w)
  · exact CloneL_some ⟨g, 0, none⟩ _ cap zs rfl hn (fun j u hu => hr.cells rfl j u hu) (Own.start w)
theorem Words_b (hn : ws.length ≤ 1000000) (h : Own w0 F0 (memA T m ws l :: L) w) :
    Calls Tryz.prog 24 #[.pointer (some ⟨m, 0, none⟩)] w (RetRow w (fun _ => False) [] 3 1 ws.length (intC ws)) := by
  obtain ⟨vw, vl, h1⟩ := h.mem
  have hm : w.cell? ⟨m, 0, none⟩ = some vw := h1.cell (i := 0) rfl
  have H := Lib.hid (CloneI_b ws hn h1.swap)
  clear h h1
  go_enter Tryz.func24, Tryz.ntmps24
  go_wp2_with fail
  refine H.out.mono ?_
  rintro e w' ⟨v, rfl, hO⟩
  go_wp2_with fail
  go_ret
  exact ⟨_, rfl, hO⟩
theorem Log_b (hn : l.length ≤ 1000000) (h : Own w0 F0 (memA T m ws l :: L) w) :
    Calls Tryz.prog 22 #[.pointer (some ⟨m, 0, none⟩)] w (RetRow w (fun _ => False) [] 104 5 l.length (logC l)) := by
  obtain ⟨vw, vl, h1⟩ := h.mem
  have hm : w.cell? ⟨m, 1, none⟩ = some vl := h1.cell (i := 1) rfl
  have H := Lib.hid (CloneL_b l hn h1.p2)
  clear h h1
  go_enter Tryz.func22, Tryz.ntmps22
  go_wp2_with fail
  refine H.out.mono ?_
  rintro e w' ⟨v, rfl, hO⟩
  go_wp2_with fail
  go_ret
  exact ⟨_, rfl, hO⟩
end Go.Proofs.YtjfjjmlocgmicaaGreat
end
section
namespace Go.Proofs.YtjfjjmlocgmicaaGreat
open Go.ChangeShapes Go.WideShapes Go.ChangeAt Go.RowKit Go.Shelf Go.Deep
set_option maxRecDepth 100000
set_option linter.unusedVariables false
variable {w0 w w' : World} {F0 : Nat → Prop} {L : List Asn}
def I64 (a : Int) : Prop := -9223372036854775808 ≤ a ∧ a ≤ 9223372036854775807
theorem getD_set (ws : List Int) (i k : Nat) (x : Int) : (ws.set i x).getD k 0 = if i = k ∧ i < ws.length then x else ws.getD k 0 := by
  simp only [List.getD_eq_getElem?_getD, List.getElem?_set]
  by_cases h : i = k
  · subst h
    by_cases h2 : i < ws.length
    · simp [h2]
    · simp [h2]
  · simp [h]
abbrev NoF : Nat → Prop := fun _ => False
theorem getD_out (l : List Int) (k : Nat) (h : l.length ≤ k) : l.getD k 0 = 0 := by simp [List.getD, h]
theorem playF_end {σ : Type} {M : Mach σ} {l : List Pk} {f t : Nat} {s s1 : σ} {ws ws1 : List Int} {lg lg1 : List Acc} (h : M.step s (pokesAt t l ws) lg = (s1, ws1, lg1, true)) : playF M l (f + 1) t s ws lg = (t + 1, true, s1, ws1, lg1) := by
  rw [playF, h]; rfl
theorem playF_step {σ : Type} {M : Mach σ} {l : List Pk} {f t : Nat} {s s1 : σ} {ws ws1 : List Int} {lg lg1 : List Acc} (h : M.step s (pokesAt t l ws) lg = (s1, ws1, lg1, false)) : playF M l (f + 1) t s ws lg = playF M l f (t + 1) s1 ws1 lg1 := by
  rw [playF, h]; rfl
def ansV (e n : Int) (x : Bool) (q : Int) : Value := .agg #[.int .i64 e, .int .i64 n, .bool x, .int .i64 q]
def lay (ws : List Int) (k : Nat) : List Int := ws.take k ++ List.replicate (ws.length - k) 0
theorem lay_len (ws : List Int) (k : Nat) (h : k ≤ ws.length) : (lay ws k).length = ws.length := by simp [lay]; omega
theorem lay_zero (ws : List Int) : lay ws 0 = List.replicate ws.length 0 := by simp [lay]
theorem lay_set (ws : List Int) (k : Nat) (h : k < ws.length) : (lay ws k).set k (ws.getD k 0) = lay ws (k + 1) := by
  apply List.ext_getElem
  · rw [List.length_set, lay_len _ _ (by omega), lay_len _ _ (by omega)]
  · intro i h1 h2
    rw [List.length_set, lay_len _ _ (by omega)] at h1
    rw [List.getElem_set]
    simp only [lay, List.getElem_append, List.length_take, List.getElem_take, List.getElem_replicate]
    by_cases hi : k = i
    · subst hi
      rw [if_pos rfl, dif_pos (by omega)]
      simp [List.getD, h]
    · rw [if_neg hi]
      by_cases h3 : i < k
      · rw [dif_pos (by omega), dif_pos (by omega)]
      · rw [dif_neg (by omega), dif_neg (by omega)]
theorem lay_all (ws : List Int) : lay ws ws.length = ws := by simp [lay]
theorem pksAt_nil (w : World) : PksAt w (.slice none 0 0) [] := Or.inl ⟨rfl, rfl⟩
theorem ints_of {H : Type} {enc : TypeId × Value → H} {W : World} {t e : TypeId} {k : IntKind} {v : Value} {x : DataW H × List MemPlace} {fuel : Nat}
    (ht : Tryz.prog.underlying t = some (.slice e)) (he : Tryz.prog.underlying e = some (.int k)) (hc : Tryz.prog.cellsOf e = 1)
    (hf : DataW.trod enc Tryz.prog W 0 (fun _ => true) true fuel t [v] = some x) (hlt : ∀ y ∈ x.2, y.block < W.heap.size) :
    ∃ zs : List Int, zs.length ≤ maxLen ∧ (∀ n ∈ zs, (Lit.int k n).wf = true) ∧ IntsAt W k v zs := by
  rcases open_ints ht he hc hf with ⟨hcs, hx⟩ | ⟨a, len, cap, zs, hcs, _, hl, hm, hz, hx, hcell, hwz⟩
  · simp at hcs
    subst hcs
    exact ⟨[], by simp, by simp, Or.inl ⟨rfl, _, _, rfl⟩⟩
  · simp at hcs
    subst hcs
    subst hx
    simp only [if_true] at hz
    have hlen : (zs.take len).length = len := by rw [List.length_take]; omega
    refine ⟨zs.take len, by omega, fun n hn => hwz n (List.mem_of_mem_take hn), ?_⟩
    by_cases hl0 : len = 0
    · subst hl0
      exact Or.inl ⟨by simp, _, _, rfl⟩
    · obtain ⟨b, off, spot⟩ := a
      have hspot : spot = none := by simpa [Addr.add] using World.cell?_spot (hcell 0 (by omega))
      subst hspot
      have hbW : b < W.heap.size := hlt (.cell b off) (MemPlace.mem_row.2 ⟨0, by omega, by simp⟩)
      refine Or.inr ⟨by omega, b, off, cap, by rw [hlen], hbW, fun j hj => ?_⟩
      rw [← add_plain, hcell j (by omega)]
      rw [hlen] at hj
      simp [List.getD, hj]
theorem all_wf {k : IntKind} {zs : List Int} (h : ∀ n ∈ zs, (Lit.int k n).wf = true) : ∀ i, i < zs.length → k.min ≤ zs.getD i 0 ∧ zs.getD i 0 ≤ k.max := fun i hi => by
  have := law_wf (h _ (List.getElem_mem hi))
  simpa [List.getD, hi] using this
theorem pks_in {W : World} {v : Value} {rows : List (List Int)} (hr : ∀ r ∈ rows, r.length = 3)
    (hw : ∀ r ∈ rows, ∀ j, j < 3 → (Lit.int (([.i64, .i64, .i64] : List IntKind).getD j .i64) (r.getD j 0)).wf = true) (hv : RowAt W v rows.length (rowsC [.i64, .i64, .i64] rows)) :
    (pksOf rows).length = rows.length ∧ PksAt W v (pksOf rows) ∧ (∀ p ∈ pksOf rows, I64 p.at_ ∧ I64 p.w ∧ I64 p.x) := by
  have hl : (pksOf rows).length = rows.length := by simp [pksOf]
  refine ⟨hl, ?_, fun p hp => ?_⟩
  · unfold PksAt
    rw [hl, ← pksOf_C hr]; exact hv
  · obtain ⟨r, hr1, rfl⟩ := List.mem_map.1 hp
    have h0 := law_wf (hw r hr1 0 (by decide))
    have h1 := law_wf (hw r hr1 1 (by decide))
    have h2 := law_wf (hw r hr1 2 (by decide))
    exact ⟨h0, h1, h2⟩
end Go.Proofs.YtjfjjmlocgmicaaGreat
end
section
namespace Go.Proofs.YtjfjjmlocgmicaaGreat
open Go.RowKit
set_option linter.unusedVariables false
structure PP where
  av : Nat
  le : Nat
  n : Int
  L : Int
structure PS where
  at_ : Nat
  l : Int
  a : Int
  e : Int
  r : Bool
def mn (a b : Int) : Int := if a < b then a else b
def stepP (p : PP) (s : PS) (ws : List Int) (lg : List Acc) : PS × List Int × List Acc × Bool :=
  match s.at_ with
  | 0 => (⟨if p.n ≤ ws.getD p.le 0 then 1 else 2, ws.getD p.le 0, s.a, s.e, s.r⟩, ws, lg ++ [⟨1, (p.le : Nat), ws.getD p.le 0, 0, false⟩], false)
  | 1 => if ws.getD p.le 0 = s.l then (⟨9, s.l, s.a, s.e, s.r⟩, ws.set p.le (s.l - p.n), lg ++ [⟨3, (p.le : Nat), s.l, s.l - p.n, true⟩], true)
      else (⟨0, s.l, s.a, s.e, s.r⟩, ws, lg ++ [⟨3, (p.le : Nat), s.l, s.l - p.n, false⟩], false)
  | 2 => (⟨if ws.getD p.av 0 < p.n then 9 else 3, s.l, ws.getD p.av 0, mn (ws.getD p.av 0 - p.n) (p.L / 2), decide (ws.getD p.av 0 < p.n)⟩, ws, lg ++ [⟨1, (p.av : Nat), ws.getD p.av 0, 0, false⟩], decide (ws.getD p.av 0 < p.n))
  | 3 => if ws.getD p.av 0 = s.a then (⟨if s.e = 0 then 9 else 4, s.l, s.a, s.e, s.r⟩, ws.set p.av (s.a - p.n - s.e), lg ++ [⟨3, (p.av : Nat), s.a, s.a - p.n - s.e, true⟩], decide (s.e = 0))
      else (⟨2, s.l, s.a, s.e, s.r⟩, ws, lg ++ [⟨3, (p.av : Nat), s.a, s.a - p.n - s.e, false⟩], false)
  | 4 => (⟨if ws.getD p.le 0 + s.e ≤ p.L then 5 else 6, ws.getD p.le 0, s.a, s.e, s.r⟩, ws, lg ++ [⟨1, (p.le : Nat), ws.getD p.le 0, 0, false⟩], false)
  | 5 => if ws.getD p.le 0 = s.l then (⟨9, s.l, s.a, s.e, s.r⟩, ws.set p.le (s.l + s.e), lg ++ [⟨3, (p.le : Nat), s.l, s.l + s.e, true⟩], true)
      else (⟨4, s.l, s.a, s.e, s.r⟩, ws, lg ++ [⟨3, (p.le : Nat), s.l, s.l + s.e, false⟩], false)
  | 6 => (⟨9, s.l, s.a, s.e, s.r⟩, ws.set p.av (wrap64 (ws.getD p.av 0 + s.e)), lg ++ [⟨2, (p.av : Nat), s.e, wrap64 (ws.getD p.av 0 + s.e), false⟩], true)
  | _ => (s, ws, lg, true)
def s0P : PS := ⟨0, 0, 0, 0, false⟩
structure PP.Ok (p : PP) : Prop where
  ne : p.av ≠ p.le
  n0 : 1 ≤ p.n
  n1 : p.n ≤ 1048576
  L0 : 0 ≤ p.L
  L1 : p.L ≤ 1048576
structure PW (p : PP) (B : Int) (ws : List Int) : Prop where
  av : p.av < ws.length
  le : p.le < ws.length
  most : ws.length ≤ 10000
  wf : ∀ k, I64 (ws.getD k 0)
  a0 : 0 ≤ ws.getD p.av 0
  a1 : ws.getD p.av 0 ≤ B
  l0 : 0 ≤ ws.getD p.le 0
  l1 : ws.getD p.le 0 ≤ p.L
structure PSOk (p : PP) (B : Int) (s : PS) : Prop where
  at_ : s.at_ ≤ 6 ∨ s.at_ = 9
  one : s.at_ = 1 → p.n ≤ s.l ∧ s.l ≤ p.L
  three : s.at_ = 3 → p.n ≤ s.a ∧ s.a ≤ B ∧ 0 ≤ s.e ∧ 2 * s.e ≤ p.L ∧ s.e ≤ s.a - p.n
  e : 4 ≤ s.at_ → s.at_ ≤ 6 → 1 ≤ s.e ∧ 2 * s.e ≤ p.L
  five : s.at_ = 5 → 0 ≤ s.l ∧ s.l + s.e ≤ p.L
  r : s.r = true → s.at_ = 9
  lI : I64 s.l
  aI : I64 s.a
  eI : I64 s.e
variable {p : PP} {s : PS} {ws : List Int} {lg : List Acc} {B : Int}
theorem mn_le (a b : Int) : mn a b ≤ a ∧ mn a b ≤ b ∧ (mn a b = a ∨ mn a b = b) := by unfold mn; split <;> omega
theorem s0P_ok (p : PP) (B : Int) : PSOk p B s0P :=
  ⟨Or.inl (by simp [s0P]), fun h => by simp [s0P] at h, fun h => by simp [s0P] at h, fun h => by simp [s0P] at h, fun h => by simp [s0P] at h, fun h => by simp [s0P] at h, by simp [s0P, I64], by simp [s0P, I64], by simp [s0P, I64]⟩
theorem PSOk.step (hp : p.Ok) (hB : B ≤ 1000000000000000000) (hw : PW p B ws) (hs : PSOk p B s) : PSOk p B (stepP p s ws lg).1 := by
  obtain ⟨at_, l, a, e, r⟩ := s
  obtain ⟨h9, h1, h3, he, h5, hr, lI, aI, eI⟩ := hs
  simp only at h9 h1 h3 he h5 hr lI aI eI
  have n0 := hp.n0
  have n1 := hp.n1
  have L0 := hp.L0
  have L1 := hp.L1
  have a0 := hw.a0
  have a1 := hw.a1
  have l0 := hw.l0
  have l1 := hw.l1
  have hr' : at_ ≠ 9 → r = false := fun h => by cases r with | true => exact absurd (hr rfl) h | false => rfl
  rcases h9 with h9 | rfl
  · match at_, h9 with
    | 0, _ =>
      have rf := hr' (by decide); subst rf
      simp only [stepP]
      refine ⟨by simp only; split <;> simp, fun h => ?_, fun h => ?_, fun h => ?_, fun h => ?_, fun h => by simp at h, hw.wf _, aI, eI⟩
      · simp only at h ⊢; split at h
        · omega
        · simp at h
      · simp only at h; split at h <;> simp at h
      · simp only at h; split at h <;> simp at h
      · simp only at h; split at h <;> simp at h
    | 1, _ =>
      have rf := hr' (by decide); subst rf
      simp only [stepP]; split
      · exact ⟨Or.inr rfl, fun h => by simp at h, fun h => by simp at h, fun h h2 => by simp at h2, fun h => by simp at h, fun h => by simp at h, lI, aI, eI⟩
      · exact ⟨Or.inl (by simp), fun h => by simp at h, fun h => by simp at h, fun h => by simp at h, fun h => by simp at h, fun h => by simp at h, lI, aI, eI⟩
    | 2, _ =>
      have hm := mn_le (ws.getD p.av 0 - p.n) (p.L / 2)
      simp only [stepP]
      by_cases hc : ws.getD p.av 0 < p.n
      · rw [if_pos hc]
        exact ⟨Or.inr rfl, fun h => by simp at h, fun h => by simp at h, fun h h2 => by simp at h2, fun h => by simp at h, fun _ => rfl, lI, hw.wf _, by unfold I64; simp only; omega⟩
      · rw [if_neg hc]
        exact ⟨Or.inl (by simp), fun h => by simp at h, fun _ => by simp only; omega, fun h => by simp at h, fun h => by simp at h, fun h => absurd (of_decide_eq_true h) hc, lI, hw.wf _, by unfold I64; simp only; omega⟩
    | 3, _ =>
      have rf := hr' (by decide); subst rf
      have h33 := h3 rfl
      simp only [stepP]; split
      · by_cases hz : e = 0
        · rw [if_pos hz]
          exact ⟨Or.inr rfl, fun h => by simp at h, fun h => by simp at h, fun h h2 => by simp at h2, fun h => by simp at h, fun h => by simp at h, lI, aI, eI⟩
        · rw [if_neg hz]
          exact ⟨Or.inl (by simp), fun h => by simp at h, fun h => by simp at h, fun _ _ => by simp only; omega, fun h => by simp at h, fun h => by simp at h, lI, aI, eI⟩
      · exact ⟨Or.inl (by simp), fun h => by simp at h, fun h => by simp at h, fun h => by simp at h, fun h => by simp at h, fun h => by simp at h, lI, aI, eI⟩
    | 4, _ =>
      have rf := hr' (by decide); subst rf
      have he4 := he (by decide) (by decide)
      simp only [stepP]
      by_cases hc : ws.getD p.le 0 + e ≤ p.L
      · rw [if_pos hc]
        exact ⟨Or.inl (by simp), fun h => by simp at h, fun h => by simp at h, fun _ _ => he4, fun _ => ⟨l0, hc⟩, fun h => by simp at h, hw.wf _, aI, eI⟩
      · rw [if_neg hc]
        exact ⟨Or.inl (by simp), fun h => by simp at h, fun h => by simp at h, fun _ _ => he4, fun h => by simp at h, fun h => by simp at h, hw.wf _, aI, eI⟩
    | 5, _ =>
      have rf := hr' (by decide); subst rf
      have he4 := he (by decide) (by decide)
      simp only [stepP]; split
      · exact ⟨Or.inr rfl, fun h => by simp at h, fun h => by simp at h, fun h h2 => by simp at h2, fun h => by simp at h, fun h => by simp at h, lI, aI, eI⟩
      · exact ⟨Or.inl (by simp), fun h => by simp at h, fun h => by simp at h, fun _ _ => he4, fun h => by simp at h, fun h => by simp at h, lI, aI, eI⟩
    | 6, _ =>
      have rf := hr' (by decide); subst rf
      exact ⟨Or.inr rfl, fun h => by simp [stepP] at h, fun h => by simp [stepP] at h, fun h h2 => by simp [stepP] at h2, fun h => by simp [stepP] at h, fun h => by simp [stepP] at h, lI, aI, eI⟩
    | k + 7, hk => omega
  · exact ⟨Or.inr rfl, fun h => by simp [stepP] at h, fun h => by simp [stepP] at h, fun h h2 => by simp [stepP] at h2, fun h => by simp [stepP] at h, fun _ => rfl, lI, aI, eI⟩
theorem PW.more {B' : Int} (h : PW p B ws) (hB : B ≤ B') : PW p B' ws := ⟨h.av, h.le, h.most, h.wf, h.a0, by have := h.a1; omega, h.l0, h.l1⟩
theorem PW.setAv {B' : Int} (hp : p.Ok) (h : PW p B ws) (y : Int) (h0 : 0 ≤ y) (h1 : y ≤ B') (hB : B' ≤ 9000000000000000000) : PW p B' (ws.set p.av y) := by
  have hav := h.av
  have hne := hp.ne
  refine ⟨by rw [List.length_set]; exact h.av, by rw [List.length_set]; exact h.le, by rw [List.length_set]; exact h.most, fun k => ?_, ?_, ?_, ?_, ?_⟩
  · rw [getD_set]; split
    · unfold I64; omega
    · exact h.wf k
  · rw [getD_set, if_pos ⟨rfl, hav⟩]; exact h0
  · rw [getD_set, if_pos ⟨rfl, hav⟩]; exact h1
  · rw [getD_set, if_neg (by omega)]; exact h.l0
  · rw [getD_set, if_neg (by omega)]; exact h.l1
theorem PW.setLe (hp : p.Ok) (h : PW p B ws) (y : Int) (h0 : 0 ≤ y) (h1 : y ≤ p.L) : PW p B (ws.set p.le y) := by
  have hle := h.le
  have hne := hp.ne
  have hL := hp.L1
  refine ⟨by rw [List.length_set]; exact h.av, by rw [List.length_set]; exact h.le, by rw [List.length_set]; exact h.most, fun k => ?_, ?_, ?_, ?_, ?_⟩
  · rw [getD_set]; split
    · unfold I64; omega
    · exact h.wf k
  · rw [getD_set, if_neg (by omega)]; exact h.a0
  · rw [getD_set, if_neg (by omega)]; exact h.a1
  · rw [getD_set, if_pos ⟨rfl, hle⟩]; exact h0
  · rw [getD_set, if_pos ⟨rfl, hle⟩]; exact h1
theorem PW.step (hp : p.Ok) (hB : B ≤ 1000000000000000000) (hw : PW p B ws) (hs : PSOk p B s) : PW p (if s.at_ = 6 then B + p.L else B) (stepP p s ws lg).2.1 := by
  obtain ⟨at_, l, a, e, r⟩ := s
  obtain ⟨h9, h1, h3, he, h5, hr, lI, aI, eI⟩ := hs
  simp only at h9 h1 h3 he h5 hr lI aI eI ⊢
  have n0 := hp.n0
  have n1 := hp.n1
  have L0 := hp.L0
  have L1 := hp.L1
  have a0 := hw.a0
  have a1 := hw.a1
  rcases h9 with h9 | rfl
  · match at_, h9 with
    | 0, _ => exact hw
    | 1, _ =>
      have h11 := h1 rfl
      rw [if_neg (by decide)]
      simp only [stepP]; split
      · exact hw.setLe hp _ (by omega) (by omega)
      · exact hw
    | 2, _ => exact hw
    | 3, _ =>
      have h33 := h3 rfl
      rw [if_neg (by decide)]
      simp only [stepP]; split
      · exact hw.setAv hp _ (by omega) (by omega) (by omega)
      · exact hw
    | 4, _ => exact hw
    | 5, _ =>
      have h55 := h5 rfl
      have he4 := he (by decide) (by decide)
      rw [if_neg (by decide)]
      simp only [stepP]; split
      · exact hw.setLe hp _ (by omega) (by omega)
      · exact hw
    | 6, _ =>
      have he4 := he (by decide) (by decide)
      have hwr : wrap64 (ws.getD p.av 0 + e) = ws.getD p.av 0 + e := by unfold wrap64; omega
      rw [if_pos rfl]
      simp only [stepP, hwr]
      exact hw.setAv hp _ (by omega) (by omega) (by omega)
    | k + 7, hk => omega
  · exact hw
def bal (p : PP) (s : PS) : Int := if 4 ≤ s.at_ ∧ s.at_ ≤ 6 then p.n + s.e else if s.at_ = 9 ∧ s.r = false then p.n else 0
def ownA (x : Acc) : Int := if x.kind = 2 then x.a else if x.kind = 3 ∧ x.ok = true then x.b - x.a else 0
def ownL : List Acc → Int
  | [] => 0
  | x :: l => ownA x + ownL l
theorem ownL_app (l : List Acc) (x : Acc) : ownL (l ++ [x]) = ownL l + ownA x := by
  induction l with
  | nil => simp [ownL]
  | cons y l ih => rw [List.cons_append, ownL, ownL, ih]; omega
theorem step_bal (hp : p.Ok) (hB : B ≤ 1000000000000000000) (hw : PW p B ws) (hs : PSOk p B s) (h : s.at_ ≠ 9) :
    (stepP p s ws lg).2.1.getD p.av 0 + (stepP p s ws lg).2.1.getD p.le 0 + bal p (stepP p s ws lg).1 = ws.getD p.av 0 + ws.getD p.le 0 + bal p s ∧
    ownL (stepP p s ws lg).2.2.1 = ownL lg + bal p s - bal p (stepP p s ws lg).1 ∧
    (∃ x, (stepP p s ws lg).2.2.1 = lg ++ [x] ∧ (x.w = (p.av : Int) ∨ x.w = (p.le : Int)) ∧ (x.kind = 1 ∨ x.kind = 2 ∨ x.kind = 3)) ∧
    (∀ k, k ≠ p.av → k ≠ p.le → (stepP p s ws lg).2.1.getD k 0 = ws.getD k 0) := by
  obtain ⟨at_, l, a, e, r⟩ := s
  obtain ⟨h9, h1, h3, he, h5, hr, lI, aI, eI⟩ := hs
  simp only at h9 h1 h3 he h5 hr lI aI eI h ⊢
  have n0 := hp.n0
  have n1 := hp.n1
  have L1 := hp.L1
  have a0 := hw.a0
  have a1 := hw.a1
  have hne := hp.ne
  have hav := hw.av
  have hle := hw.le
  have hr' : r = false := by cases r with | true => exact absurd (hr rfl) h | false => rfl
  subst hr'
  have sa : ∀ y, (ws.set p.av y).getD p.av 0 = y ∧ (ws.set p.av y).getD p.le 0 = ws.getD p.le 0 ∧ ∀ k, k ≠ p.av → k ≠ p.le → (ws.set p.av y).getD k 0 = ws.getD k 0 := fun y =>
    ⟨by rw [getD_set, if_pos ⟨rfl, hav⟩], by rw [getD_set, if_neg (by omega)], fun k h1 h2 => by rw [getD_set, if_neg (by omega)]⟩
  have sl : ∀ y, (ws.set p.le y).getD p.le 0 = y ∧ (ws.set p.le y).getD p.av 0 = ws.getD p.av 0 ∧ ∀ k, k ≠ p.av → k ≠ p.le → (ws.set p.le y).getD k 0 = ws.getD k 0 := fun y =>
    ⟨by rw [getD_set, if_pos ⟨rfl, hle⟩], by rw [getD_set, if_neg (by omega)], fun k h1 h2 => by rw [getD_set, if_neg (by omega)]⟩
  rcases h9 with h9 | rfl
  · match at_, h9 with
    | 0, _ =>
      simp only [stepP]
      by_cases hc : p.n ≤ ws.getD p.le 0
      · simp only [if_pos hc]
        exact ⟨by simp [bal], by rw [ownL_app]; simp [bal, ownA], ⟨_, rfl, Or.inr rfl, Or.inl rfl⟩, fun _ _ _ => trivial⟩
      · simp only [if_neg hc]
        exact ⟨by simp [bal], by rw [ownL_app]; simp [bal, ownA], ⟨_, rfl, Or.inr rfl, Or.inl rfl⟩, fun _ _ _ => trivial⟩
    | 1, _ =>
      simp only [stepP]; split
      · rename_i hc
        obtain ⟨b1, b2, b3⟩ := sl (l - p.n)
        refine ⟨by rw [b1, b2, hc]; simp only [bal]; simp; omega, by rw [ownL_app]; simp [bal, ownA]; omega, ⟨_, rfl, Or.inr rfl, Or.inr (Or.inr rfl)⟩, b3⟩
      · exact ⟨by simp [bal], by rw [ownL_app]; simp [bal, ownA], ⟨_, rfl, Or.inr rfl, Or.inr (Or.inr rfl)⟩, fun _ _ _ => rfl⟩
    | 2, _ =>
      simp only [stepP, ownL_app]
      refine ⟨?_, ?_, ⟨_, rfl, Or.inl rfl, Or.inl rfl⟩, fun _ _ _ => trivial⟩
      · by_cases hc : ws.getD p.av 0 < p.n
        · rw [if_pos hc, decide_eq_true hc]; simp [bal]
        · rw [if_neg hc, decide_eq_false hc]; simp [bal]
      · by_cases hc : ws.getD p.av 0 < p.n
        · rw [if_pos hc, decide_eq_true hc]; simp [bal, ownA]
        · rw [if_neg hc, decide_eq_false hc]; simp [bal, ownA]
    | 3, _ =>
      have h33 := h3 rfl
      simp only [stepP]; split
      · rename_i hc
        obtain ⟨b1, b2, b3⟩ := sa (a - p.n - e)
        by_cases hz : e = 0
        · rw [if_pos hz]
          refine ⟨by rw [b1, b2, hc]; simp [bal]; omega, by rw [ownL_app]; simp [bal, ownA]; omega, ⟨_, rfl, Or.inl rfl, Or.inr (Or.inr rfl)⟩, b3⟩
        · rw [if_neg hz]
          refine ⟨by rw [b1, b2, hc]; simp [bal]; omega, by rw [ownL_app]; simp [bal, ownA]; omega, ⟨_, rfl, Or.inl rfl, Or.inr (Or.inr rfl)⟩, b3⟩
      · exact ⟨by simp [bal], by rw [ownL_app]; simp [bal, ownA], ⟨_, rfl, Or.inl rfl, Or.inr (Or.inr rfl)⟩, fun _ _ _ => rfl⟩
    | 4, _ =>
      simp only [stepP, ownL_app]
      by_cases hc : ws.getD p.le 0 + e ≤ p.L
      · simp only [if_pos hc]
        exact ⟨by simp [bal], by simp [bal, ownA], ⟨_, rfl, Or.inr rfl, Or.inl rfl⟩, fun _ _ _ => trivial⟩
      · simp only [if_neg hc]
        exact ⟨by simp [bal], by simp [bal, ownA], ⟨_, rfl, Or.inr rfl, Or.inl rfl⟩, fun _ _ _ => trivial⟩
    | 5, _ =>
      simp only [stepP]; split
      · rename_i hc
        obtain ⟨b1, b2, b3⟩ := sl (l + e)
        refine ⟨by rw [b1, b2, hc]; simp [bal]; omega, by rw [ownL_app]; simp [bal, ownA]; omega, ⟨_, rfl, Or.inr rfl, Or.inr (Or.inr rfl)⟩, b3⟩
      · exact ⟨by simp [bal], by rw [ownL_app]; simp [bal, ownA], ⟨_, rfl, Or.inr rfl, Or.inr (Or.inr rfl)⟩, fun _ _ _ => rfl⟩
    | 6, _ =>
      have he4 := he (by decide) (by decide)
      have hwr : wrap64 (ws.getD p.av 0 + e) = ws.getD p.av 0 + e := by unfold wrap64; omega
      obtain ⟨b1, b2, b3⟩ := sa (ws.getD p.av 0 + e)
      simp only [stepP, hwr]
      refine ⟨by rw [b1, b2]; simp [bal]; omega, by rw [ownL_app]; simp [bal, ownA]; omega, ⟨_, rfl, Or.inl rfl, Or.inr (Or.inl rfl)⟩, b3⟩
    | k + 7, hk => omega
  · exact absurd rfl h
end Go.Proofs.YtjfjjmlocgmicaaGreat
end
section
namespace Go.Proofs.YtjfjjmlocgmicaaGreat
open Go.RowKit
set_option linter.unusedVariables false
variable {p : PP} {s : PS} {ws : List Int} {lg : List Acc} {B : Int}
def muP (p : PP) (s : PS) (ws : List Int) : Nat :=
  match s.at_ with
  | 0 => 5
  | 1 => if ws.getD p.le 0 = s.l then 1 else 6
  | 2 => 4
  | 3 => if ws.getD p.av 0 = s.a then 3 else 5
  | 4 => 2
  | 5 => if ws.getD p.le 0 = s.l then 1 else 3
  | 6 => 1
  | _ => 0
theorem muP_le : muP p s ws ≤ 6 := by unfold muP; split <;> (try split) <;> omega
theorem muP_poke (ws' : List Int) : muP p s ws' ≤ muP p s ws + 5 := by
  unfold muP; split <;> (try split) <;> (try split) <;> omega
theorem muP_step (hs : PSOk p B s) (h : s.at_ ≠ 9) : muP p (stepP p s ws lg).1 (stepP p s ws lg).2.1 < muP p s ws := by
  obtain ⟨at_, l, a, e, r⟩ := s
  have h9 := hs.at_
  simp only at h9 h
  match at_, h9, h with
  | 0, _, _ =>
    simp only [stepP]
    by_cases hc : p.n ≤ ws.getD p.le 0
    · simp only [if_pos hc, muP]; simp
    · simp only [if_neg hc, muP]; simp
  | 1, _, _ =>
    simp only [stepP]; split
    · rename_i hc; simp only [muP]; rw [if_pos hc]; simp
    · rename_i hc; simp only [muP]; rw [if_neg hc]; simp
  | 2, _, _ =>
    simp only [stepP]
    by_cases hc : ws.getD p.av 0 < p.n
    · simp only [if_pos hc, muP]; simp
    · simp only [if_neg hc, muP]; simp
  | 3, _, _ =>
    simp only [stepP]; split
    · rename_i hc
      by_cases hz : e = 0
      · simp only [if_pos hz, muP]; rw [if_pos hc]; simp
      · simp only [if_neg hz, muP]; rw [if_pos hc]; simp
    · rename_i hc; simp only [muP]; rw [if_neg hc]; simp
  | 4, _, _ =>
    simp only [stepP]
    by_cases hc : ws.getD p.le 0 + e ≤ p.L
    · simp only [if_pos hc, muP]; simp
    · simp only [if_neg hc, muP]; simp
  | 5, _, _ =>
    simp only [stepP]; split
    · rename_i hc; simp only [muP]; rw [if_pos hc]; simp
    · rename_i hc; simp only [muP]; rw [if_neg hc]; simp
  | 6, _, _ => simp [stepP, muP]
  | 7, h9, _ => omega
  | 8, h9, _ => omega
  | 9, _, h => exact absurd rfl h
  | k + 10, h9, _ => omega
theorem stepP_flag (hs : PSOk p B s) : (stepP p s ws lg).2.2.2 = ((stepP p s ws lg).1.at_ == 9) := by
  obtain ⟨at_, l, a, e, r⟩ := s
  have h9 := hs.at_
  simp only at h9
  match at_, h9 with
  | 0, _ =>
    simp only [stepP]
    by_cases hc : p.n ≤ ws.getD p.le 0
    · rw [if_pos hc]; rfl
    · rw [if_neg hc]; rfl
  | 1, _ => simp only [stepP]; split <;> simp
  | 2, _ =>
    simp only [stepP]
    by_cases hc : ws.getD p.av 0 < p.n
    · rw [if_pos hc, decide_eq_true hc]; rfl
    · rw [if_neg hc, decide_eq_false hc]; rfl
  | 3, _ =>
    simp only [stepP]; split
    · by_cases hz : e = 0
      · rw [if_pos hz, decide_eq_true hz]; rfl
      · rw [if_neg hz, decide_eq_false hz]; rfl
    · simp
  | 4, _ =>
    simp only [stepP]
    by_cases hc : ws.getD p.le 0 + e ≤ p.L
    · rw [if_pos hc]; rfl
    · rw [if_neg hc]; rfl
  | 5, _ => simp only [stepP]; split <;> simp
  | 6, _ => simp [stepP]
  | 7, h9 => omega
  | 8, h9 => omega
  | 9, _ => simp [stepP]
  | k + 10, h9 => omega
theorem stepP_len : (stepP p s ws lg).2.1.length = ws.length := by
  unfold stepP; split <;> (try split) <;> simp
def cntP (l : List Pk) (t : Nat) : Nat := (l.filter fun q => decide (0 ≤ q.at_ ∧ q.at_ < (t : Int))).length
theorem cntP_le (l : List Pk) (t : Nat) : cntP l t ≤ l.length := List.length_filter_le _ _
theorem cntP_cons (q : Pk) (l : List Pk) (t : Nat) : cntP (q :: l) t = cntP l t + if 0 ≤ q.at_ ∧ q.at_ < (t : Int) then 1 else 0 := by
  unfold cntP
  by_cases h : 0 ≤ q.at_ ∧ q.at_ < (t : Int)
  · rw [List.filter_cons_of_pos (by simpa using h), if_pos h]; rfl
  · rw [List.filter_cons_of_neg (by simpa using h), if_neg h]; rfl
theorem cntP_mono (t : Nat) : ∀ l : List Pk, cntP l t ≤ cntP l (t + 1)
  | [] => by simp [cntP]
  | q :: l => by
    have := cntP_mono t l
    rw [cntP_cons, cntP_cons]
    split <;> split <;> omega
theorem cntP_hit (t : Nat) : ∀ l : List Pk, (∃ q ∈ l, q.at_ = (t : Int)) → cntP l t + 1 ≤ cntP l (t + 1)
  | [], ⟨q, h, _⟩ => by simp at h
  | q :: l, ⟨x, hx, hat⟩ => by
    rw [cntP_cons, cntP_cons]
    by_cases hq : q.at_ = (t : Int)
    · have := cntP_mono t l
      rw [if_neg (by omega), if_pos (by omega)]; omega
    · rcases List.mem_cons.1 hx with rfl | hx
      · exact absurd hat hq
      · have := cntP_hit t l ⟨x, hx, hat⟩
        split <;> split <;> omega
theorem mu_pokes (t : Nat) (l : List Pk) : muP p s (pokesAt t l ws) + 5 * cntP l t ≤ muP p s ws + 5 * cntP l (t + 1) := by
  by_cases h : ∃ q ∈ l, q.at_ = (t : Int)
  · have h1 := cntP_hit t l h
    have h2 := muP_poke (p := p) (s := s) (ws := ws) (pokesAt t l ws)
    omega
  · rw [pokesAt_none (fun q hq e => h ⟨q, hq, e⟩)]
    have := cntP_mono t l
    omega
structure PJ (p : PP) (B : Int) (l : List Pk) (t : Nat) (s : PS) (ws : List Int) (lg : List Acc) : Prop where
  w : PW p B ws
  ok : PSOk p B s
  nine : s.at_ ≠ 9
  mu : t + muP p s ws ≤ 5 + 5 * cntP l t
  len : lg.length = t
  own : ownL lg = -bal p s
  all : ∀ x ∈ lg, (x.w = (p.av : Int) ∨ x.w = (p.le : Int)) ∧ (x.kind = 1 ∨ x.kind = 2 ∨ x.kind = 3)
structure PE (p : PP) (B : Int) (l : List Pk) (n : Nat) (s : PS) (ws : List Int) (lg : List Acc) : Prop where
  w : PW p (B + p.L) ws
  ok : PSOk p B s
  nine : s.at_ = 9
  most : n ≤ 5 + 5 * l.length
  len : lg.length = n
  own : ownL lg = -bal p s
  all : ∀ x ∈ lg, (x.w = (p.av : Int) ∨ x.w = (p.le : Int)) ∧ (x.kind = 1 ∨ x.kind = 2 ∨ x.kind = 3)
theorem PJ.start (hw : PW p B ws) (l : List Pk) : PJ p B l 0 s0P ws [] :=
  ⟨hw, s0P_ok p B, by simp [s0P], by simp [muP, s0P], rfl, by simp [ownL, bal, s0P], fun x hx => by simp at hx⟩
theorem PJ.step {l : List Pk} {t : Nat} (hp : p.Ok) (hB : B ≤ 1000000000000000000) (hpk : ∀ (t : Nat) ws, PW p B ws → PW p B (pokesAt t l ws)) (h : PJ p B l t s ws lg) :
    ((stepP p s (pokesAt t l ws) lg).1.at_ ≠ 9 → PJ p B l (t + 1) (stepP p s (pokesAt t l ws) lg).1 (stepP p s (pokesAt t l ws) lg).2.1 (stepP p s (pokesAt t l ws) lg).2.2.1) ∧
    ((stepP p s (pokesAt t l ws) lg).1.at_ = 9 → PE p B l (t + 1) (stepP p s (pokesAt t l ws) lg).1 (stepP p s (pokesAt t l ws) lg).2.1 (stepP p s (pokesAt t l ws) lg).2.2.1) := by
  have hw2 := hpk t ws h.w
  have h1 := PW.step (lg := lg) hp hB hw2 h.ok
  have h2 := PSOk.step (lg := lg) hp hB hw2 h.ok
  have h3 := muP_step (ws := pokesAt t l ws) (lg := lg) h.ok h.nine
  have h4 := mu_pokes (p := p) (s := s) (ws := ws) t l
  obtain ⟨b1, b2, ⟨x, b3, b4⟩, b5⟩ := step_bal (lg := lg) hp hB hw2 h.ok h.nine
  have hmu := h.mu
  have hc := cntP_le l (t + 1)
  have hlen : (stepP p s (pokesAt t l ws) lg).2.2.1.length = t + 1 := by rw [b3, List.length_append, h.len]; rfl
  have hown : ownL (stepP p s (pokesAt t l ws) lg).2.2.1 = -bal p (stepP p s (pokesAt t l ws) lg).1 := by rw [b2, h.own]; omega
  have hall : ∀ y ∈ (stepP p s (pokesAt t l ws) lg).2.2.1, (y.w = (p.av : Int) ∨ y.w = (p.le : Int)) ∧ (y.kind = 1 ∨ y.kind = 2 ∨ y.kind = 3) := fun y hy => by
    rw [b3] at hy
    rcases List.mem_append.1 hy with hy | hy
    · exact h.all y hy
    · rw [List.mem_singleton.1 hy]; exact b4
  constructor
  · intro h9
    have h6 : s.at_ ≠ 6 := fun e => h9 (by unfold stepP; rw [e]; rfl)
    rw [if_neg h6] at h1
    exact ⟨h1, h2, h9, by omega, hlen, hown, hall⟩
  · intro h9
    refine ⟨?_, h2, h9, by omega, hlen, hown, hall⟩
    split at h1
    · exact h1
    · exact h1.more (by have := hp.L0; omega)
end Go.Proofs.YtjfjjmlocgmicaaGreat
end
