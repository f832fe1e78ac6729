/- Texts of elder layers, one behind the other: Law2, Play, Pokes. -/
import Derived.Test.YtlpdafldabfiaaaGreatC4
import Derived.Deep.Slices
import Derived.Deep.Fields
section
namespace Go.Proofs.YtlpdafldabfiaaaGreat
open Go.ChangeShapes Go.WideShapes Go.ChangeAt Go.RowKit Go.Deep
set_option maxRecDepth 100000
set_option linter.unusedVariables false
def RowAt (w : World) (v : Value) (n : Nat) (cs : List Value) : Prop :=
  (n = 0 ∧ v = .slice none 0 0) ∨ ∃ ad cap, v = .slice (some ad) n cap ∧ ∀ j u, cs[j]? = some u → w.cell? (ad.add j) = some u
theorem RowAt.below {w w' : World} {v : Value} {n : Nat} {cs : List Value} (h : RowAt w v n cs) (hb : Below w.heap.size w w') : RowAt w' v n cs := by
  rcases h with h | ⟨ad, cap, rfl, hc⟩
  · exact Or.inl h
  · refine Or.inr ⟨ad, cap, rfl, fun j u hu => ?_⟩
    have := hc j u hu
    rw [hb.cell (World.block_lt_of_cell? w _ this)]; exact this
theorem RowAt.slice {w : World} {v : Value} {n : Nat} {cs : List Value} (h : RowAt w v n cs) : ∃ p cap, v = .slice p n cap := by
  rcases h with ⟨rfl, rfl⟩ | ⟨ad, cap, rfl, hc⟩ <;> exact ⟨_, _, rfl⟩
theorem addr_spot {w : World} {ad : Addr} {v : Value} (h : w.cell? ad = some v) : ad = ⟨ad.block, ad.off, none⟩ := by
  obtain ⟨b, o, s⟩ := ad
  have : s = none := by simpa using World.cell?_spot h
  subst this; rfl
theorem RowAt.at {w : World} {p : Option Addr} {n cap : Nat} {cs : List Value} (h : RowAt w (.slice p n cap) n cs) (h0 : 0 < cs.length) (hn : 0 < n) : ∃ b off, p = some ⟨b, off, none⟩ ∧ b < w.heap.size ∧ ∀ j u, cs[j]? = some u → w.cell? ⟨b, off + j, none⟩ = some u := by
  rcases h with ⟨rfl, _⟩ | ⟨ad, cap', hv, hc⟩
  · omega
  · injection hv with hv _ _
    have h1 := hc 0 _ (List.getElem?_eq_getElem h0)
    have h2 := addr_spot h1
    have h3 : ad.add 0 = ad := by unfold Addr.add; rw [if_pos rfl]
    rw [h3] at h1 h2
    obtain ⟨b, off, s⟩ := ad
    simp only [Addr.mk.injEq, true_and] at h2
    subst h2
    refine ⟨b, off, hv, World.block_lt_of_cell? w _ h1, fun j u hu => ?_⟩
    have := hc j u hu
    rw [add_plain] at this; exact this
def rowsC (ks : List IntKind) (rows : List (List Int)) : List Value := rows.flatMap fun r => List.zipWith Value.int ks r
theorem rowsC_len {ks : List IntKind} : ∀ {rows : List (List Int)}, (∀ r ∈ rows, r.length = ks.length) → (rowsC ks rows).length = rows.length * ks.length
  | [], _ => by simp [rowsC]
  | r :: rows, h => by
    have := rowsC_len (ks := ks) (rows := rows) (fun r hr => h r (by simp [hr]))
    simp only [rowsC, List.flatMap_cons, List.length_append, List.length_cons] at this ⊢
    rw [this, List.length_zipWith, h r (by simp), Nat.min_self, Nat.add_mul]; omega
theorem rowsC_get {ks : List IntKind} : ∀ {rows : List (List Int)}, (∀ r ∈ rows, r.length = ks.length) → ∀ i j, i < rows.length → j < ks.length → (rowsC ks rows)[i * ks.length + j]? = some (.int (ks.getD j .i64) ((rows.getD i []).getD j 0))
  | [], _, i, j, hi, _ => by simp at hi
  | r :: rows, h, i, j, hi, hj => by
    have hr := h r (by simp)
    have hl : (List.zipWith Value.int ks r).length = ks.length := by rw [List.length_zipWith, hr, Nat.min_self]
    cases i with
    | zero =>
      simp only [rowsC, List.flatMap_cons]
      rw [List.getElem?_append_left (by omega)]
      simp [hj, hr]
    | succ i =>
      have := rowsC_get (ks := ks) (rows := rows) (fun r hr => h r (by simp [hr])) i j (by simpa using hi) hj
      simp only [rowsC, List.flatMap_cons] at this ⊢
      rw [List.getElem?_append_right (by rw [hl, Nat.add_mul]; omega), hl, show (i + 1) * ks.length + j - ks.length = i * ks.length + j by rw [Nat.add_mul]; omega, this]
      rfl
end Go.Proofs.YtlpdafldabfiaaaGreat
end
section
namespace Go.Proofs.YtlpdafldabfiaaaGreat
open Go.ChangeShapes Go.WideShapes Go.ChangeAt Go.RowKit Go.Shelf
set_option linter.unusedVariables false
set_option maxRecDepth 100000
variable {w0 w w' : World} {F0 : Nat → Prop} {L : List Asn}
def PksAt (w : World) (v : Value) (l : List Pk) : Prop := RowAt w v l.length (pkC l)
theorem Tryz.info_pk : (Tryz.prog.info? 99).map (fun i => (i.zero, i.size, i.bytes)) = some (some (.agg #[.int .i64 0, .int .i64 0, .int .i64 0]), 3, 24) := by kernel_rfl
theorem CloneP_some (ad : Addr) (n c : Nat) (zs : List Pk) (hz : zs.length = n) (hn : n ≤ 1000000) (hc : ∀ j u, (pkC zs)[j]? = some u → w.cell? (ad.add j) = some u) (h : Own w0 F0 L w) :
    Calls Tryz.prog 101 #[.slice (some ad) n c] w fun e w' => ∃ g cap, e = .returned (.slice (some ⟨g, 0, none⟩) n cap) ∧ Own w0 F0 (pkA g cap n zs :: L) w' := by
  obtain ⟨i0, hi0, hz0, hz1, hz2⟩ := info_parts Tryz.info_pk
  have h1 := Lib.hid ((h.new (.cells #[] 99)).blkRow (n := 0) (cap := 0) (size := 3) (xs := []) (Nat.le_refl _) (by decide) rfl rfl rfl)
  have H1 := Lib.hid (show 0 + n ≤ maxLen by unfold maxLen; omega)
  have H2 := Lib.hid (show (0 + n) * 24 ≤ 140737488355328 by omega)
  have hc2 : ∀ j u, (pkC zs)[j]? = some u → (w.alloc (.cells #[] 99)).cell? (ad.add j) = some u := fun j u hu => by
    have := hc j u hu
    rw [World.cell?_alloc_lt _ _ _ (World.block_lt_of_cell? w _ this)]; exact this
  have Hc := Lib.hid hc2
  have Hz := Lib.hid (show (pkC zs).length = n * 3 by rw [pkC_len]; omega)
  have Ho := Lib.hid (show ∀ u ∈ pkC zs, u.oneCell' = true from pkC_one zs)
  have he : ∀ w : World, (binOp .eql 57 (.slice (some ad) n c) (.slice none 0 0)).run Tryz.prog w = .ok (.bool false) w := fun _ => by kernel_rfl
  have Hh := Lib.hid hz
  clear hc hc2 hz
  go_enter Tryz.func101, Tryz.ntmps101
  go_wp2_with (at_builtin; refine wpList_append_row rfl (.tmp 5) (.tmp 6) 57 rfl 99 i0 _ Tryz.underlying57 hi0 hz0 hz1 hz2 rfl (by decide) rfl h1.out ad n c (pkC zs) rfl Hz.out Hc.out Ho.out H1.out H2.out ?_; intro v' w' hO hg hn)
  have HN := Lib.hid hn
  have HO := Lib.hid hO
  clear hn hO hg
  go_ret
  have hO := HO.out
  rw [Nat.zero_add] at hO
  rcases hO.isRow.2 with ⟨rfl, h0⟩ | ⟨g, cap, cur, rfl, _⟩
  · have := HN.out.1 rfl
    cases this.1
  · exact ⟨g, cap, rfl, hO⟩
theorem insertion_nil (w : World) (v : Value) : Calls Tryz.prog 144 #[.slice none 0 0, .int .i64 0, .int .i64 0, v] w fun e w' => e = .returned (.tuple #[]) ∧ w = w' := by
  go_enter Tryz.func144, Tryz.ntmps144
  go_wp2
  refine wp_loop_rounds 1 ?_
  rw [rounds_succ]
  go_wp2
  go_end0
  exact ⟨rfl, rfl⟩
theorem sortStable_nil (w : World) (v : Value) : Calls Tryz.prog 102 #[.slice none 0 0, v] w fun e w' => e = .returned (.tuple #[]) ∧ w = w' := by
  have H : ∀ w, Calls Tryz.prog 134 #[.slice none 0 0, .int .i64 0, v] w fun e w' => e = .returned (.tuple #[]) ∧ w = w' := by
    intro w
    go_enter Tryz.func134, Tryz.ntmps134
    go_wp2_with fail
    refine wp_loop_rounds 1 ?_
    rw [rounds_succ]
    go_wp2_with fail
    refine (insertion_nil _ _).mono ?_
    rintro e w' ⟨rfl, rfl⟩
    go_wp2_with fail
    refine wp_loop_rounds 1 ?_
    rw [rounds_succ]
    go_wp2_with fail
    go_end0
    exact ⟨rfl, rfl⟩
  have H := Lib.hid H
  go_enter Tryz.func102, Tryz.ntmps102
  go_wp2_with fail
  refine (H.out _).mono ?_
  rintro e w' ⟨rfl, rfl⟩
  go_wp2_with fail
  go_end0
  exact ⟨rfl, rfl⟩
def SortRet (w0 : World) (F0 : Nat → Prop) (L : List Asn) (l : List Pk) (e : Ending) (w : World) : Prop :=
  ∃ v S, e = .returned v ∧ Sorted l S ∧ Own w0 F0 (row v 99 3 S.length (pkC S) :: L) w
theorem byTime_any (l : List Pk) (v : Value) (hl : l.length ≤ 1000000) (hv : PksAt w v l) (h : Own w0 F0 L w) :
    Calls Tryz.prog 57 #[v] w (SortRet w0 F0 L l) := by
  rcases hv with ⟨h0, rfl⟩ | ⟨ad, cap, rfl, hc⟩
  · have H1 : ∀ w, Calls Tryz.prog 101 #[.slice none 0 0] w fun e w' => e = .returned (.slice none 0 0) ∧ w = w' := by
      intro w
      have he : ∀ w : World, (binOp .eql 57 (.slice none 0 0) (.slice none 0 0)).run Tryz.prog w = .ok (.bool true) w := fun _ => by kernel_rfl
      go_enter Tryz.func101, Tryz.ntmps101
      go_wp2
      go_ret
      exact ⟨rfl, rfl⟩
    have H1 := Lib.hid H1
    go_enter Tryz.func57, Tryz.ntmps57
    go_wp2_with fail
    refine (H1.out _).mono ?_
    rintro e w' ⟨rfl, rfl⟩
    go_wp2_with fail
    refine (sortStable_nil _ _).mono ?_
    rintro e w' ⟨rfl, rfl⟩
    go_wp2_with fail
    go_ret
    obtain rfl : l = [] := List.eq_nil_of_length_eq_zero h0
    exact ⟨_, [], rfl, ⟨List.Pairwise.nil, Stab.refl _, rfl⟩, h.rowNil⟩
  · have H1 := Lib.hid (CloneP_some ad l.length cap l rfl hl hc h)
    clear hc
    go_enter Tryz.func57, Tryz.ntmps57
    go_wp2_with fail
    refine (H1.out).mono ?_
    rintro e w1 ⟨g, cp, rfl, hO⟩
    have H2 := Lib.hid (sortStable_any g cp l.length l rfl hl hO)
    unfold cmpF at H2
    clear hO H1
    go_wp2_with fail
    refine H2.out.mono ?_
    rintro e w2 ⟨rfl, S, hS, hO⟩
    clear H2
    go_wp2_with fail
    go_ret
    rw [List.nil_append, List.append_nil] at hO
    exact ⟨_, S, rfl, hS, by rw [hS.2.2]; exact hO⟩
def pokeW (ws : List Int) (p : Pk) : List Int := if 0 ≤ p.w ∧ p.w < ws.length then ws.set p.w.toNat p.x else ws
def pokesAt (t : Int) (l : List Pk) (ws : List Int) : List Int := (l.filter (fun p => p.at_ == t)).foldl pokeW ws
theorem pokeW_len (ws : List Int) (p : Pk) : (pokeW ws p).length = ws.length := by unfold pokeW; split <;> simp
theorem pokesAt_len (t : Int) (l : List Pk) (ws : List Int) : (pokesAt t l ws).length = ws.length := by
  unfold pokesAt
  induction l.filter (fun p => p.at_ == t) generalizing ws with
  | nil => rfl
  | cons p l ih => rw [List.foldl_cons, ih, pokeW_len]
theorem pokesAt_none {t : Int} {l : List Pk} (h : ∀ p ∈ l, p.at_ ≠ t) (ws : List Int) : pokesAt t l ws = ws := by
  unfold pokesAt
  rw [List.filter_eq_nil_iff.2 (fun p hp => by simpa using h p hp)]; rfl
theorem pokesAt_app {t : Int} {a b : List Pk} (ws : List Int) : pokesAt t (a ++ b) ws = pokesAt t b (pokesAt t a ws) := by
  unfold pokesAt; rw [List.filter_append, List.foldl_append]
theorem pokesAt_cons_hit {t : Int} {p : Pk} {l : List Pk} (h : p.at_ = t) (ws : List Int) : pokesAt t (p :: l) ws = pokesAt t l (pokeW ws p) := by
  unfold pokesAt; rw [List.filter_cons_of_pos (by simpa using h)]; rfl
theorem pokesAt_cons_miss {t : Int} {p : Pk} {l : List Pk} (h : p.at_ ≠ t) (ws : List Int) : pokesAt t (p :: l) ws = pokesAt t l ws := by
  unfold pokesAt; rw [List.filter_cons_of_neg (by simpa using h)]
theorem Stab.pokesAt {a b : List Pk} (h : Stab a b) (t : Int) (ws : List Int) : pokesAt t b ws = pokesAt t a ws := by
  unfold Go.Proofs.YtlpdafldabfiaaaGreat.pokesAt; rw [h t]
theorem PokeW_any {T : TypeId} {m : Nat} {ws : List Int} {l : List Acc} (p : Pk) (h : Own w0 F0 (memA T m ws l :: L) w) :
    Calls Tryz.prog 55 #[.pointer (some ⟨m, 0, none⟩), .int .i64 p.w, .int .i64 p.x] w fun e w' =>
      e = .returned (.tuple #[]) ∧ Own w0 F0 (memA T m (pokeW ws p) l :: L) w' := by
  by_cases hp : 0 ≤ p.w ∧ p.w < ws.length
  · obtain ⟨h0, h1⟩ := hp
    have e : pokeW ws p = ws.set p.w.toNat p.x := if_pos ⟨h0, h1⟩
    rw [e]
    have e2 : p.w = (p.w.toNat : Int) := by omega
    rw [e2]
    exact Poke_yes p.w.toNat p.x (by omega) h
  · rw [show pokeW ws p = ws from if_neg hp]
    refine (Poke_none p.w p.x (by omega) h).mono ?_
    rintro e w' ⟨rfl, rfl⟩
    exact ⟨rfl, h⟩
def LeftV (vS : Value) (S : List Pk) (c : Nat) (v : Value) : Prop := ∃ p q, v = .slice q (S.length - c) (p - c) ∧ (∃ q0, vS = .slice q0 S.length p ∧ c ≤ S.length ∧ S.length ≤ p ∧ (c < S.length → ∃ g, q0 = some ⟨g, 0, none⟩ ∧ q = some ⟨g, c * 3, none⟩))
def DueRet (w0 : World) (F0 : Nat → Prop) (L : List Asn) (T : TypeId) (m : Nat) (ws : List Int) (l : List Acc) (vS : Value) (S : List Pk) (t : Nat) (e : Ending) (w : World) : Prop :=
  ∃ v c, e = .returned v ∧ LeftV vS S c v ∧ (∀ p ∈ S.take c, p.at_ ≤ t) ∧ Own w0 F0 (memA T m ws l :: row vS 99 3 S.length (pkC S) :: L) w
theorem drop_head {S : List Pk} {c : Nat} (h : c < S.length) : S.drop c = S.getD c default :: S.drop (c + 1) := by
  rw [List.drop_eq_getElem_cons h]; simp [List.getD, h]
def DueRel (w0 : World) (F0 : Nat → Prop) (L : List Asn) (T : TypeId) (m : Nat) (W : List Int) (l : List Acc) (vS : Value) (S : List Pk) (t : Nat) (v : Value) (w : World) : Prop :=
  ∃ ws1 c1, LeftV vS S c1 v ∧ (∀ p ∈ S.take c1, p.at_ ≤ (t : Int)) ∧ pokesAt t (S.drop c1) ws1 = W ∧ Own w0 F0 (memA T m ws1 l :: row vS 99 3 S.length (pkC S) :: L) w
def vlen : Value → Nat | .slice _ n _ => n | _ => 0
theorem LeftV.next {vS : Value} {S : List Pk} {c p : Nat} {q0 : Option Addr} {g : Nat} (hS : vS = .slice q0 S.length p) (hp : S.length ≤ p) (hq : q0 = some ⟨g, 0, none⟩) (hc : c < S.length) (q : Option Addr) (hq2 : c + 1 < S.length → q = some ⟨g, (c + 1) * 3, none⟩) : LeftV vS S (c + 1) (.slice q (S.length - (c + 1)) (p - (c + 1))) :=
  ⟨p, q, rfl, q0, hS, by omega, hp, fun h => ⟨g, hq, hq2 h⟩⟩
theorem take_le {S : List Pk} {c : Nat} {t : Int} (hc : c < S.length) (h : ∀ p ∈ S.take c, p.at_ ≤ t) (h2 : (S.getD c default).at_ ≤ t) : ∀ p ∈ S.take (c + 1), p.at_ ≤ t := by
  intro p hp
  rw [List.take_succ_eq_append_getElem hc] at hp
  rcases List.mem_append.1 hp with hp | hp
  · exact h p hp
  · rw [List.mem_singleton.1 hp]; simpa [List.getD, hc] using h2
theorem pokeDue_any {T : TypeId} {m : Nat} {ws : List Int} {l : List Acc} (vS v : Value) (S : List Pk) (c t : Nat) (hS : Srt S) (hn : S.length ≤ 1000000) (ht : t ≤ 1000000) (hv : LeftV vS S c v) (hc : ∀ p ∈ S.take c, p.at_ ≤ t)
    (h : Own w0 F0 (memA T m ws l :: row vS 99 3 S.length (pkC S) :: L) w) :
    Calls Tryz.prog 58 #[.pointer (some ⟨m, 0, none⟩), v, .int .i64 t] w (DueRet w0 F0 L T m (pokesAt t (S.drop c) ws) l vS S t) := by
  have HS := Lib.hid hS
  have HI := Lib.hid (show DueRel w0 F0 L T m (pokesAt t (S.drop c) ws) l vS S t v w from ⟨ws, c, hv, hc, rfl, h⟩)
  generalize pokesAt t (S.drop c) ws = W at HI
  clear h hv hc hS
  go_enter Tryz.func58, Tryz.ntmps58
  go_wp2_with fail
  go_loopw [1] (fun v wr => DueRel w0 F0 L T m W l vS S t v wr) (fun v _ => vlen v)
  case atStart => exact HI.out
  case round =>
    clear HI
    obtain ⟨ws1, c1, ⟨p, q, rfl, q0, hvS, hcS, hSp, hq⟩, htk, hW, hO⟩ := hrel
    by_cases hlt : c1 < S.length
    · obtain ⟨g, rfl, rfl⟩ := hq hlt
      subst hvS
      obtain ⟨x, hx⟩ : ∃ x, x = S.getD c1 default := ⟨_, rfl⟩
      obtain ⟨x0, x1, x2⟩ := hO.swap.pkAt rfl c1 hlt hx.symm
      have hpos : 0 < S.length - c1 := by omega
      have hSm : S.length - c1 ≤ 9223372036854775807 := by omega
      have Hx := Lib.hid hx
      have Htk := Lib.hid htk
      have HW := Lib.hid hW
      have HO := Lib.hid hO
      have Hq := Lib.hid hq
      clear hx htk hW hO hq
      rcases Int.lt_trichotomy x.at_ t with hxt | hxt | hxt
      · have Hrel : ∀ q, (c1 + 1 < S.length → q = some ⟨g, c1 * 3 + 3, none⟩) → DueRel w0 F0 L T m W l (.slice (some ⟨g, 0, none⟩) S.length p) S t (.slice q (S.length - c1 - 1) (p - c1 - 1)) wr := fun q hq2 => by
          refine ⟨ws1, c1 + 1, LeftV.next rfl hSp rfl hlt q (fun h => by rw [hq2 h]; congr 1; congr 1; omega), take_le hlt Htk.out (by rw [← Hx.out]; omega), ?_, HO.out⟩
          rw [← HW.out, drop_head hlt, pokesAt_cons_miss (by rw [← Hx.out]; omega)]
        have Hrel := Lib.hid Hrel
        by_cases hcap : 1 < p - c1
        · go_wp2_with fail
          go_roundw
          case rel => exact Hrel.out _ (fun _ => rfl)
          case measure => simp [vlen]; omega
        · have hcap : p - c1 = 1 := by omega
          go_wp2_with fail
          go_roundw
          case rel => have := Hrel.out (some ⟨g, c1 * 3, none⟩) (fun h => by omega); rw [hcap] at this; exact this
          case measure => simp [vlen]; omega
      · have HP := Lib.hid (fun w h => PokeW_any (w0 := w0) (F0 := F0) (L := row (.slice (some ⟨g, 0, none⟩) S.length p) 99 3 S.length (pkC S) :: L) (T := T) (m := m) (ws := ws1) (l := l) (w := w) x h)
        have Hrel : ∀ q w', (c1 + 1 < S.length → q = some ⟨g, c1 * 3 + 3, none⟩) → Own w0 F0 (memA T m (pokeW ws1 x) l :: row (.slice (some ⟨g, 0, none⟩) S.length p) 99 3 S.length (pkC S) :: L) w' → DueRel w0 F0 L T m W l (.slice (some ⟨g, 0, none⟩) S.length p) S t (.slice q (S.length - c1 - 1) (p - c1 - 1)) w' := fun q w' hq2 hO => by
          refine ⟨pokeW ws1 x, c1 + 1, LeftV.next rfl hSp rfl hlt q (fun h => by rw [hq2 h]; congr 1; congr 1; omega), take_le hlt Htk.out (by rw [← Hx.out]; omega), ?_, hO⟩
          rw [← HW.out, drop_head hlt, pokesAt_cons_hit (by rw [← Hx.out]; omega), Hx.out]
        have Hrel := Lib.hid Hrel
        have hF : (x.at_ == (t : Int)) = true := by rw [beq_iff_eq]; exact hxt
        have Hxt := Lib.hid hxt
        have hle : x.at_ ≤ t := by omega
        clear hxt
        by_cases hcap : 1 < p - c1
        · go_wp2_with fail
          refine wp_region_still_tail 9 (by kernel_rfl) (by kernel_rfl) ?_
          simp only [List.take_succ_cons, List.take_zero, List.drop_succ_cons, List.drop_zero]
          change wpStill _ _ wr.drew _ _ _
          iterate 9 still_step
          refine wpStill_nil ?_
          change wpList _ _ _ _ _ wr.drew
          go_wp2_with fail
          refine (HP.out _ HO.out.drew).mono ?_
          rintro e w1 ⟨rfl, hO⟩
          go_wp2_with fail
          go_roundw
          case rel => exact Hrel.out _ _ (fun _ => rfl) hO
          case measure => simp [vlen]; omega
        · have hcap : p - c1 = 1 := by omega
          go_wp2_with fail
          refine wp_region_still_tail 9 (by kernel_rfl) (by kernel_rfl) ?_
          simp only [List.take_succ_cons, List.take_zero, List.drop_succ_cons, List.drop_zero]
          change wpStill _ _ wr.drew _ _ _
          iterate 9 still_step
          refine wpStill_nil ?_
          change wpList _ _ _ _ _ wr.drew
          go_wp2_with fail
          refine (HP.out _ HO.out.drew).mono ?_
          rintro e w1 ⟨rfl, hO⟩
          go_wp2_with fail
          go_roundw
          case rel => have := Hrel.out (some ⟨g, c1 * 3, none⟩) w1 (fun h => by omega) hO; rw [hcap] at this; exact this
          case measure => simp [vlen]; omega
      · have hW : ws1 = W := by
          rw [← HW.out]
          refine (pokesAt_none (fun y hy e => ?_) ws1).symm
          obtain ⟨i, hi, rfl⟩ := tm_of_mem hy
          rw [List.length_drop] at hi
          have := HS.out.tm_le (i := c1) (j := c1 + i) (by omega) (by omega)
          have e2 : tm S (c1 + i) = ((S.drop c1).getD i default).at_ := by simp [tm, List.getD]
          have e3 : tm S c1 = x.at_ := by rw [Hx.out]; rfl
          omega
        have HWW := Lib.hid hW
        clear hW
        go_wp2_with fail
        go_ret
        exact ⟨_, c1, rfl, ⟨p, _, rfl, _, rfl, hcS, hSp, Hq.out⟩, Htk.out, by rw [← HWW.out]; exact HO.out⟩
    · have hW : ws1 = W := by
        rw [← hW, List.drop_of_length_le (by omega)]; rfl
      have HWW := Lib.hid hW
      have Htk := Lib.hid htk
      have HO := Lib.hid hO
      have Hq := Lib.hid hq
      have HvS := Lib.hid hvS
      have hc1 : c1 = S.length := by omega
      subst hc1
      clear hW htk hO hq hvS hlt hcS
      go_wp2_with fail
      go_ret
      exact ⟨_, S.length, rfl, ⟨p, q, by rw [Nat.sub_self]; rfl, q0, HvS.out, Nat.le_refl _, hSp, Hq.out⟩, Htk.out, by rw [← HWW.out]; exact HO.out⟩
structure Mach (σ : Type) where
  asn : σ → Asn
  step : σ → List Int → List Acc → σ × List Int × List Acc × Bool
  ok : σ → List Int → List Acc → Prop
def playF {σ : Type} (M : Mach σ) (l : List Pk) : Nat → Nat → σ → List Int → List Acc → Nat × Bool × σ × List Int × List Acc
  | 0, t, s, ws, lg => (t, false, s, ws, lg)
  | f + 1, t, s, ws, lg => if (M.step s (pokesAt t l ws) lg).2.2.2 = true then (t + 1, true, (M.step s (pokesAt t l ws) lg).1, (M.step s (pokesAt t l ws) lg).2.1, (M.step s (pokesAt t l ws) lg).2.2.1)
      else playF M l f (t + 1) (M.step s (pokesAt t l ws) lg).1 (M.step s (pokesAt t l ws) lg).2.1 (M.step s (pokesAt t l ws) lg).2.2.1
def PlayRel {σ : Type} (w0 : World) (F0 : Nat → Prop) (L : List Asn) (M : Mach σ) (okT : Nat → σ → List Int → List Acc → Prop) (T : TypeId) (m : Nat) (l : List Pk) (N : Nat) (R : Nat × Bool × σ × List Int × List Acc) (vS : Value) (S : List Pk) (v10 v11 v12 : Value) (w : World) : Prop :=
  ∃ (t : Nat) (b : Bool) (s : σ) (ws : List Int) (lg : List Acc) (c : Nat), t ≤ N ∧ v11 = .int .i64 t ∧ v12 = .bool b ∧ LeftV vS S c v10 ∧ (∀ p ∈ S.take c, p.at_ < t) ∧ (b = true → R = (t, true, s, ws, lg)) ∧ (b = false → okT t s ws lg ∧ playF M l (N - t) t s ws lg = R) ∧
    Own w0 F0 (M.asn s :: memA T m ws lg :: row vS 99 3 S.length (pkC S) :: L) w
def StepsBy {σ : Type} (w0 : World) (F0 : Nat → Prop) (M : Mach σ) (f : FuncId) (r : Value) (T : TypeId) (m : Nat) : Prop :=
  ∀ (L : List Asn) (s : σ) (ws : List Int) (lg : List Acc) (w : World), M.ok s ws lg → Own w0 F0 (M.asn s :: memA T m ws lg :: L) w →
    Calls Tryz.prog f #[r, .pointer (some ⟨m, 0, none⟩)] w fun e w' => e = .returned (.bool (M.step s ws lg).2.2.2) ∧ Own w0 F0 (M.asn (M.step s ws lg).1 :: memA T m (M.step s ws lg).2.1 (M.step s ws lg).2.2.1 :: L) w'
def PlayRet {σ : Type} (w0 : World) (F0 : Nat → Prop) (L : List Asn) (M : Mach σ) (T : TypeId) (m : Nat) (R : Nat × Bool × σ × List Int × List Acc) (e : Ending) (w : World) : Prop :=
  e = .returned (.tuple #[.int .i64 R.1, .bool R.2.1]) ∧ Own w0 F0 (M.asn R.2.2.1 :: memA T m R.2.2.2.1 R.2.2.2.2 :: L) w
theorem pokes_left {l S : List Pk} {c t : Nat} (hS : Sorted l S) (h : ∀ p ∈ S.take c, p.at_ < t) (ws : List Int) : pokesAt t (S.drop c) ws = pokesAt t l ws := by
  rw [← hS.2.1.pokesAt t ws]
  conv => rhs; rw [← List.take_append_drop c S]
  rw [pokesAt_app, pokesAt_none (l := S.take c) (fun p hp => by have := h p hp; omega)]
set_option maxHeartbeats 400000 in
theorem Play_t {σ : Type} (M : Mach σ) (okT : Nat → σ → List Int → List Acc → Prop) (ty : TypeId) (f : FuncId) (r : Value) (T : TypeId) (m : Nat) (v : Value) (s : σ) (ws : List Int) (lg : List Acc) (l : List Pk) (most : Int) (hl : l.length ≤ 1000000) (hv : PksAt w v l) (hm : most ≤ 100000)
    (hmeth : ∀ d w, (method (d + 2) ty r "Step").run Tryz.prog w = .ok (f, r) w) (heg : ∀ args w, (callFunc f args).run Tryz.prog w = .ok (.enter f args) w)
    (hstep : StepsBy w0 F0 M f r T m) (hto : ∀ (t : Nat) s ws lg, (t : Int) < most → okT t s ws lg → M.ok s ws lg) (hpk : ∀ (t : Nat) s ws lg, (t : Int) < most → okT t s ws lg → okT t s (pokesAt t l ws) lg)
    (hok : ∀ (t : Nat) s ws lg, (t : Int) < most → okT t s ws lg → (M.step s ws lg).2.2.2 = false → okT (t + 1) (M.step s ws lg).1 (M.step s ws lg).2.1 (M.step s ws lg).2.2.1)
    (h0 : okT 0 s ws lg) (h : Own w0 F0 (M.asn s :: memA T m ws lg :: L) w) :
    Calls Tryz.prog 23 #[.pointer (some ⟨m, 0, none⟩), .iface ty r, v, .int .i64 most] w (PlayRet w0 F0 L M T m (playF M l most.toNat 0 s ws lg)) := by
  have HB := Lib.hid (byTime_any l v hl hv h)
  have Hstep := Lib.hid hstep
  have Hm := Lib.hid hmeth
  have Hpk := Lib.hid hpk
  have Hto := Lib.hid hto
  have Hok := Lib.hid hok
  obtain ⟨R, hR⟩ : ∃ R, R = playF M l most.toNat 0 s ws lg := ⟨_, rfl⟩
  rw [← hR]
  have HR := Lib.hid hR
  have H0 := Lib.hid h0
  clear hstep hpk hok h hv hR h0 hmeth hto
  go_enter Tryz.func23, Tryz.ntmps23
  go_wp2_with fail
  refine HB.out.mono ?_
  rintro e w1 ⟨vS, S, rfl, hS, hO⟩
  have HS := Lib.hid hS
  have HP := Lib.hid (show PlayRel w0 F0 L M okT T m l most.toNat R vS S vS (.int .i64 0) (.bool false) w1 from by
    obtain ⟨q, p, hvS⟩ := row_slice hO
    refine ⟨0, false, s, ws, lg, 0, Nat.zero_le _, rfl, rfl, ⟨p, q, by simpa using hvS, q, hvS, Nat.zero_le _, ?_, ?_⟩, by simp, by simp, fun _ => ⟨H0.out, HR.out.symm⟩, hO.swap.under fun _ _ h => h.swap⟩
    · rcases hO.isRow.2 with ⟨rfl, h0⟩ | ⟨g, cap, cur, hv, _, _, hnc, _⟩
      · omega
      · rw [hvS] at hv; injection hv with _ _ hv; omega
    · intro h0
      rcases hO.isRow.2 with ⟨_, h1⟩ | ⟨g, cap, cur, hv, _⟩
      · omega
      · rw [hvS] at hv; injection hv with hv _ _; exact ⟨g, hv, by rw [hv, Nat.zero_mul]⟩)
  clear hS hO HB
  go_wp2_with fail
  go_loopw [10, 11, 12] (fun v10 v11 v12 wr => PlayRel w0 F0 L M okT T m l most.toNat R vS S v10 v11 v12 wr) (fun _ v11 _ _ => most.toNat - (intOf v11).toNat)
  case atStart => exact HP.out
  case round =>
    clear HP
    obtain ⟨t, b, s1, ws1, lg1, c, htN, rfl, rfl, hLV, htk, hb1, hb0, hO⟩ := hrel
    have HLV := Lib.hid hLV
    have Htk := Lib.hid htk
    have HO := Lib.hid hO
    clear hLV htk hO
    cases b with
    | true =>
      have Hb := Lib.hid (hb1 rfl)
      clear hb1 hb0
      go_wp2_with fail
      all_goals
        go_ret2
        exact ⟨by rw [Hb.out]; rfl, by rw [Hb.out]; exact HO.out.under fun _ _ h => h.under fun _ _ h => h.drop⟩
    | false =>
      have Hb := Lib.hid (hb0 rfl)
      clear hb1 hb0
      by_cases hlt : (t : Int) < most
      · have HD := Lib.hid (pokeDue_any (T := T) (m := m) (ws := ws1) (l := lg1) vS _ S c t HS.out.1 (by have := HS.out.2.2; omega) (by omega) HLV.out (fun p hp => by have := Htk.out p hp; omega) (by exact HO.out.swap.under fun _ _ h => h.swap))
        go_wp2_with fail
        refine HD.out.mono ?_
        rintro e w2 ⟨v2, c2, rfl, hLV2, htk2, hO2⟩
        rw [pokes_left HS.out Htk.out] at hO2
        obtain ⟨hok1, hplay⟩ := Hb.out
        have hN : most.toNat - t = (most.toNat - (t + 1)) + 1 := by omega
        rw [hN, playF] at hplay
        have hok2 := Hpk.out t s1 ws1 lg1 hlt hok1
        have hst1 := Hstep.out (row vS 99 3 S.length (pkC S) :: L) s1 (pokesAt t l ws1) lg1 w2 (Hto.out t s1 _ lg1 hlt hok2) hO2.p2
        have hok3 := Hok.out t s1 (pokesAt t l ws1) lg1 hlt hok2
        rcases hst : M.step s1 (pokesAt t l ws1) lg1 with ⟨s2, ws2, lg2, b2⟩
        rw [hst] at hplay hst1 hok3
        simp only at hplay hst1 hok3
        have HST := Lib.hid hst1
        have HOK := Lib.hid hok3
        have HPL := Lib.hid hplay
        have HLV2 := Lib.hid hLV2
        have Htk2 := Lib.hid htk2
        clear hst1 hok3 hplay hst hok1 hok2 hN hLV2 htk2 hO2 HD HO Hb
        go_wp2_with fail
        rw [Hm.out]
        simp only [Result.andThen, heg]
        refine HST.out.mono ?_
        rintro e w3 ⟨rfl, hO3⟩
        have HO3 := Lib.hid hO3
        clear HST hO3
        go_wp2_with fail
        go_roundw
        case rel =>
          refine ⟨t + 1, b2, s2, ws2, lg2, c2, by omega, by go_num, rfl, HLV2.out, fun p hp => by have := Htk2.out p hp; omega, fun hb => ?_, fun hb => ?_, HO3.out⟩
          · have := HPL.out
            rw [if_pos hb] at this
            exact this.symm
          · have := HPL.out
            rw [if_neg (by rw [hb]; decide)] at this
            exact ⟨HOK.out hb, this⟩
        case measure => simp [intOf]; omega
      · go_wp2_with fail
        go_ret2
        obtain ⟨_, hplay⟩ := Hb.out
        rw [show most.toNat - t = 0 by omega, playF] at hplay
        exact ⟨by rw [← hplay]; rfl, by rw [← hplay]; exact HO.out.under fun _ _ h => h.under fun _ _ h => h.drop⟩
end Go.Proofs.YtlpdafldabfiaaaGreat
end
section
namespace Go.Proofs.YtlpdafldabfiaaaGreat
open Go.RowKit
set_option linter.unusedVariables false
theorem pokes_take {l : List Pk} {k : Nat} {t : Int} (hk : k < l.length) (ws : List Int) : pokesAt t (l.take (k + 1)) ws = if (l.getD k default).at_ = t then pokeW (pokesAt t (l.take k) ws) (l.getD k default) else pokesAt t (l.take k) ws := by
  have e : l.getD k default = l[k] := by simp [List.getD, hk]
  rw [List.take_succ_eq_append_getElem hk, pokesAt_app, e]
  split
  · rename_i h; rw [pokesAt_cons_hit h]; rfl
  · rename_i h; rw [pokesAt_cons_miss h]; rfl
def pksOf (rows : List (List Int)) : List Pk := rows.map fun r => ⟨r.getD 0 0, r.getD 1 0, r.getD 2 0⟩
theorem pksOf_C : ∀ {rows : List (List Int)}, (∀ r ∈ rows, r.length = 3) → rowsC [.i64, .i64, .i64] rows = pkC (pksOf rows)
  | [], _ => rfl
  | r :: rows, h => by
    have ih := pksOf_C (rows := rows) (fun r hr => h r (by simp [hr]))
    have hr := h r (by simp)
    match r, hr with
    | [a, b, c], _ =>
      simp only [rowsC, List.flatMap_cons, pkC, pksOf, List.map_cons] at ih ⊢
      rw [ih]; rfl
end Go.Proofs.YtlpdafldabfiaaaGreat
end
