/- Texts of elder layers, one behind the other: Sep, Law. -/
import Derived.WalkKit
import Derived.ProofKit
import Derived.Below
import Derived.Laws.AppendOwn
import Derived.Deep.Draws
import Derived.Deep.RegionLaw
import Derived.Test.YtdglnpfnjinbkaaGreatRows
import Derived.OpenShut
import Derived.SizedLaws
namespace Go.Proofs.YtdglnpfnjinbkaaGreat
open Go.ChangeShapes Go.WideShapes Go.ChangeAt Go.RowKit
set_option linter.unusedVariables false
set_option linter.unusedSimpArgs false
set_option maxRecDepth 100000
set_option maxHeartbeats 4000000
section
structure Keep (F : Nat -> Prop) (w w' : World) : Prop where
 os : w'.os = w.os
 tape : w'.tape = w.tape
 output : w'.output = w.output
 size : w.heap.size <= w'.heap.size
 block : ∀ k, k < w.heap.size -> ¬ F k -> w'.heap[k]? = w.heap[k]?
theorem Keep.refl (F : Nat -> Prop) (w : World) : Keep F w w := ⟨rfl, rfl, rfl, Nat.le_refl _, fun _ _ _ => rfl⟩
theorem Keep.step {F G : Nat -> Prop} {a b c : World} (h : Keep F a b) (k : Keep G b c) (hG : ∀ i, G i -> F i ∨ a.heap.size <= i) : Keep F a c :=
 ⟨k.os.trans h.os, k.tape.trans h.tape, k.output.trans h.output, Nat.le_trans h.size k.size, fun i hi hn => by
  have := h.size
  rw [k.block i (by omega) (fun hg => by rcases hG i hg with h1 | h1; exact hn h1; omega), h.block i hi hn]⟩
theorem Keep.below {w w' : World} {B : Nat} (h : Below B w w') : Keep (fun k => B <= k) w w' := ⟨h.os, h.tape, h.output, h.size, fun k _ hk => h.block k (by simp at hk; omega)⟩
theorem Keep.belowAll {F : Nat -> Prop} {w w' : World} (h : Below w.heap.size w w') : Keep F w w' := ⟨h.os, h.tape, h.output, h.size, fun k hk _ => h.block k hk⟩
theorem Keep.toBelow {F : Nat -> Prop} {w w' : World} {B : Nat} (h : Keep F w w') (hF : ∀ k, F k -> B <= k) (hB : B <= w.heap.size) : Below B w w' :=
 ⟨h.os, h.tape, h.output, h.size, fun k hk => h.block k (by omega) (fun hf => by have := hF k hf; omega)⟩
theorem Keep.setCell {F : Nat -> Prop} (w : World) (a : Addr) (v : Value) (h : F a.block) : Keep F w (w.setCell a v) :=
 ⟨rfl, rfl, rfl, by simp [World.setCell], fun k _ hn => Below.heap_setCell w a v k (fun e => hn (e ▸ h))⟩
theorem Keep.grown {F : Nat -> Prop} {w w' : World} {row : Option Nat} (h : w.grownBy w' row) (hr : ∀ k, row = some k -> F k) : Keep F w w' :=
 ⟨h.os, h.tape, h.output, h.size, fun k hk hn => h.block k hk (fun e => hn (hr k e.symm))⟩
structure Asn where
 on : World -> (Nat -> Prop) -> Prop
 loc : ∀ {w w' : World} {F : Nat -> Prop}, on w F -> (∀ k, F k -> w'.heap[k]? = w.heap[k]?) -> on w' F
 lt : ∀ {w : World} {F : Nat -> Prop}, on w F -> ∀ k, F k -> k < w.heap.size
def emp : Asn := ⟨fun _ F => ∀ k, ¬ F k, fun h _ => h, fun h k hk => absurd hk (h k)⟩
def pur (p : Prop) : Asn := ⟨fun _ F => p /\ ∀ k, ¬ F k, fun h _ => h, fun h k hk => absurd hk (h.2 k)⟩
theorem getElem?_lt {α : Type} {a : Array α} {i : Nat} {x : α} (h : a[i]? = some x) : i < a.size := by
 rcases Nat.lt_or_ge i a.size with h1 | h1
 ·exact h1
 ·rw [Array.getElem?_eq_none h1] at h; cases h
def blk (b : Nat) (o : Obj) : Asn := ⟨fun w F => w.heap[b]? = some o /\ ∀ k, F k ↔ k = b,
 fun h he => ⟨by rw [he b ((h.2 b).2 rfl)]; exact h.1, h.2⟩,
 fun h k hk => by rw [(h.2 k).1 hk]; exact getElem?_lt h.1⟩
def row (v : Value) (e : TypeId) (size n : Nat) (xs : List Value) : Asn := ⟨fun w F => w.ownsRow 0 e size v n xs /\ ∀ k, F k ↔ v.ownBlock = some k,
 fun {w w' F} h he => ⟨⟨h.1.1, by
  rcases h.1.2 with h2 | ⟨g, cap, cur, rfl, hb, hg, r⟩
  ·exact Or.inl h2
  ·exact Or.inr ⟨g, cap, cur, rfl, hb, by rw [he g ((h.2 g).2 rfl)]; exact hg, r⟩⟩, h.2⟩,
 fun h k hk => (h.1.lt k ((h.2 k).1 hk)).2⟩
def ex {α : Type} (A : α -> Asn) : Asn := ⟨fun w F => ∃ x, (A x).on w F, fun ⟨x, h⟩ he => ⟨x, (A x).loc h he⟩, fun ⟨x, h⟩ => (A x).lt h⟩
def star (A B : Asn) : Asn := ⟨fun w F => ∃ F1 F2 : Nat -> Prop, A.on w F1 /\ B.on w F2 /\ (∀ k, F1 k -> ¬ F2 k) /\ ∀ k, F k ↔ F1 k ∨ F2 k,
 fun ⟨F1, F2, h1, h2, hd, hF⟩ he => ⟨F1, F2, A.loc h1 (fun k hk => he k ((hF k).2 (Or.inl hk))), B.loc h2 (fun k hk => he k ((hF k).2 (Or.inr hk))), hd, hF⟩,
 fun ⟨F1, F2, h1, h2, hd, hF⟩ k hk => ((hF k).1 hk).elim (A.lt h1 k) (B.lt h2 k)⟩
def stars : List Asn -> Asn
 | [] => emp
 | A :: L => star A (stars L)
def Own (w0 : World) (F0 : Nat -> Prop) (L : List Asn) (w : World) : Prop := Keep F0 w0 w /\ ∃ F, (stars L).on w F /\ ∀ k, F k -> F0 k ∨ w0.heap.size <= k
variable {w0 w w' : World} {F0 : Nat -> Prop} {A B C : Asn} {L M : List Asn}
theorem Own.size (h : Own w0 F0 L w) : w0.heap.size <= w.heap.size := h.1.size
theorem Own.start (w : World) : Own w (fun _ => False) [] w := ⟨Keep.refl _ _, fun _ => False, fun _ h => h, fun _ h => h.elim⟩
theorem Own.toBelow (h : Own w0 (fun _ => False) L w) : Below w0.heap.size w0 w := h.1.toBelow (fun _ h => h.elim) (Nat.le_refl _)
theorem Own.stay (h : Own w0 F0 L w) {G : Nat -> Prop} (hk : Keep G w w') (hG : ∀ k, k < w.heap.size -> ¬ G k) : Own w0 F0 L w' := by
 obtain ⟨k0, F, hF, hin⟩ := h
 refine ⟨⟨hk.os.trans k0.os, hk.tape.trans k0.tape, hk.output.trans k0.output, Nat.le_trans k0.size hk.size, fun k h1 h2 => ?_⟩, F, (stars L).loc hF (fun k hk1 => hk.block k ((stars L).lt hF k hk1) (hG k ((stars L).lt hF k hk1))), hin⟩
 have := k0.size
 rw [hk.block k (by omega) (hG k (by omega)), k0.block k h1 h2]
theorem Own.below (h : Own w0 F0 L w) (hb : Below w.heap.size w w') : Own w0 F0 L w' := h.stay (Keep.below hb) (fun k hk => by omega)
theorem Own.drew (h : Own w0 F0 L w) : Own w0 F0 L w.drew := h.below ⟨rfl, rfl, rfl, Nat.le_refl _, fun _ _ => rfl⟩
theorem Own.drewN (h : Own w0 F0 L w) (n : Nat) : Own w0 F0 L (w.drewN n) := h.below ⟨rfl, rfl, rfl, Nat.le_refl _, fun _ _ => rfl⟩
theorem Own.alloc (h : Own w0 F0 L w) (o : Obj) : Own w0 F0 L (w.alloc o) := h.below ((Below.refl _ _).alloc (Nat.le_refl _) o)
theorem Own.new (h : Own w0 F0 L w) (o : Obj) : Own w0 F0 (blk w.heap.size o :: L) (w.alloc o) := by
 have hs := h.size
 obtain ⟨k1, F, hF, hin⟩ := h.alloc o
 obtain ⟨_, G, hG, _⟩ := h
 refine ⟨k1, fun k => k = w.heap.size ∨ G k, ⟨fun k => k = w.heap.size, G, ⟨heap_alloc_new w o, fun _ => Iff.rfl⟩, (stars L).loc hG (fun k hk => Below.heap_alloc w o _ ((stars L).lt hG k hk)), fun k hk hg => ?_, fun _ => Iff.rfl⟩, fun k hk => ?_⟩
 ·have := (stars L).lt hG k hg
  omega
 ·rcases hk with rfl | hk
  ·exact Or.inr hs
  ·rename_i hin2
   exact hin2 k hk
theorem Own.swap (h : Own w0 F0 (A :: B :: L) w) : Own w0 F0 (B :: A :: L) w := by
 obtain ⟨k0, F, ⟨F1, F2, h1, ⟨F3, F4, h3, h4, hd', hF'⟩, hd, hF⟩, hin⟩ := h
 refine ⟨k0, F, ⟨F3, fun k => F1 k ∨ F4 k, h3, ⟨F1, F4, h1, h4, fun k a b => hd k a ((hF' k).2 (Or.inr b)), fun _ => Iff.rfl⟩, fun k a b => ?_, fun k => ?_⟩, hin⟩
 ·rcases b with b | b
  ·exact hd k b ((hF' k).2 (Or.inl a))
  ·exact hd' k a b
 ·rw [hF k, hF' k]
  constructor
  ·rintro (h | h | h)
   ·exact Or.inr (Or.inl h)
   ·exact Or.inl h
   ·exact Or.inr (Or.inr h)
  ·rintro (h | h | h)
   ·exact Or.inr (Or.inl h)
   ·exact Or.inl h
   ·exact Or.inr (Or.inr h)
theorem Own.under (h : Own w0 F0 (A :: L) w) (f : ∀ w0 F0, Own w0 F0 L w -> Own w0 F0 M w) : Own w0 F0 (A :: M) w := by
 obtain ⟨k0, F, ⟨F1, F2, h1, h2, hd, hF⟩, hin⟩ := h
 obtain ⟨k1, F', h', hin'⟩ := f w F2 ⟨Keep.refl _ _, F2, h2, fun k hk => Or.inl hk⟩
 have hsub : ∀ k, F' k -> F2 k := fun k hk => by
  rcases hin' k hk with h | h
  ·exact h
  ·have := (stars M).lt h' k hk; omega
 exact ⟨k0, fun k => F1 k ∨ F' k, ⟨F1, F', h1, h', fun k a b => hd k a (hsub k b), fun _ => Iff.rfl⟩, fun k hk => hin k ((hF k).2 (hk.imp id (hsub k)))⟩
theorem Own.perm (h : Own w0 F0 L w) (p : L.Perm M) : Own w0 F0 M w := by
 induction p generalizing w0 F0 with
 | nil => exact h
 | cons A _ ih => exact h.under fun _ _ h => ih h
 | swap A B L => exact h.swap
 | trans _ _ ih1 ih2 => exact ih2 (ih1 h)
theorem pick_perm : ∀ (L : List Asn) (i : Nat) (hi : i < L.length), L.Perm (L[i] :: L.eraseIdx i)
 | A :: L, 0, _ => List.Perm.refl _
 | A :: L, i + 1, hi => (List.Perm.cons A (pick_perm L i (by simpa using hi))).trans (List.Perm.swap _ _ _)
theorem Own.pick (h : Own w0 F0 L w) (i : Nat) (hi : i < L.length) : Own w0 F0 (L[i] :: L.eraseIdx i) w := h.perm (pick_perm L i hi)
theorem Own.p2 (h : Own w0 F0 (A :: B :: C :: L) w) : Own w0 F0 (C :: A :: B :: L) w := h.pick 2 (by simp)
theorem Own.p3 {A3 : Asn} (h : Own w0 F0 (A :: B :: C :: A3 :: L) w) : Own w0 F0 (A3 :: A :: B :: C :: L) w := h.pick 3 (by simp)
theorem Own.p4 {A3 A4 : Asn} (h : Own w0 F0 (A :: B :: C :: A3 :: A4 :: L) w) : Own w0 F0 (A4 :: A :: B :: C :: A3 :: L) w := h.pick 4 (by simp)
theorem Own.p5 {A3 A4 A5 : Asn} (h : Own w0 F0 (A :: B :: C :: A3 :: A4 :: A5 :: L) w) : Own w0 F0 (A5 :: A :: B :: C :: A3 :: A4 :: L) w := h.pick 5 (by simp)
theorem Own.p6 {A3 A4 A5 A6 : Asn} (h : Own w0 F0 (A :: B :: C :: A3 :: A4 :: A5 :: A6 :: L) w) : Own w0 F0 (A6 :: A :: B :: C :: A3 :: A4 :: A5 :: L) w := h.pick 6 (by simp)
theorem Own.drop (h : Own w0 F0 (A :: L) w) : Own w0 F0 L w := by
 obtain ⟨k0, F, ⟨F1, F2, h1, h2, hd, hF⟩, hin⟩ := h
 exact ⟨k0, F2, h2, fun k hk => hin k ((hF k).2 (Or.inr hk))⟩
theorem Own.exE {α : Type} {A : α -> Asn} (h : Own w0 F0 (ex A :: L) w) : ∃ x, Own w0 F0 (A x :: L) w := by
 obtain ⟨k0, F, ⟨F1, F2, ⟨x, h1⟩, h2, hd, hF⟩, hin⟩ := h
 exact ⟨x, k0, F, ⟨F1, F2, h1, h2, hd, hF⟩, hin⟩
theorem Own.exI {α : Type} {A : α -> Asn} (x : α) (h : Own w0 F0 (A x :: L) w) : Own w0 F0 (ex A :: L) w := by
 obtain ⟨k0, F, ⟨F1, F2, h1, h2, hd, hF⟩, hin⟩ := h
 exact ⟨k0, F, ⟨F1, F2, ⟨x, h1⟩, h2, hd, hF⟩, hin⟩
theorem Own.purE {p : Prop} (h : Own w0 F0 (pur p :: L) w) : p /\ Own w0 F0 L w := by
 have h' := h.drop
 obtain ⟨k0, F, ⟨F1, F2, h1, h2, hd, hF⟩, hin⟩ := h
 exact ⟨h1.1, h'⟩
theorem Own.addPur {p : Prop} (hp : p) (h : Own w0 F0 L w) : Own w0 F0 (pur p :: L) w := by
 obtain ⟨k0, F, h1, hin⟩ := h
 exact ⟨k0, F, ⟨fun _ => False, F, ⟨hp, fun _ h => h⟩, h1, fun k h => h.elim, fun k => ⟨Or.inr, fun h => h.elim (fun h => h.elim) id⟩⟩, hin⟩
theorem Own.open_ {K : List Asn} (h : Own w0 F0 (stars K :: L) w) : Own w0 F0 (K ++ L) w := by
 induction K generalizing w0 F0 with
 | nil => exact h.drop
 | cons A K ih =>
   obtain ⟨k0, F, ⟨F1, F2, ⟨F3, F4, h3, h4, hd', hF'⟩, h2, hd, hF⟩, hin⟩ := h
   have h' : Own w0 F0 (A :: stars K :: L) w := by
    refine ⟨k0, F, ⟨F3, fun k => F4 k ∨ F2 k, h3, ⟨F4, F2, h4, h2, fun k a b => hd k ((hF' k).2 (Or.inr a)) b, fun _ => Iff.rfl⟩, fun k a b => ?_, fun k => by rw [hF k, hF' k, or_assoc]⟩, hin⟩
    rcases b with b | b
    ·exact hd' k a b
    ·exact hd k ((hF' k).2 (Or.inl a)) b
   exact h'.under fun _ _ h => ih h
theorem Own.shut {K : List Asn} (h : Own w0 F0 (K ++ L) w) : Own w0 F0 (stars K :: L) w := by
 induction K generalizing w0 F0 with
 | nil =>
   obtain ⟨k0, F, h1, hin⟩ := h
   exact ⟨k0, F, ⟨fun _ => False, F, fun _ h => h, h1, fun k h => h.elim, fun k => ⟨Or.inr, fun h => h.elim (fun h => h.elim) id⟩⟩, hin⟩
 | cons A K ih =>
   have h' : Own w0 F0 (A :: stars K :: L) w := Own.under h fun _ _ h => ih h
   obtain ⟨k0, F, ⟨F3, F5, h3, ⟨F4, F2, h4, h2, hd', hF'⟩, hd, hF⟩, hin⟩ := h'
   refine ⟨k0, F, ⟨fun k => F3 k ∨ F4 k, F2, ⟨F3, F4, h3, h4, fun k a b => hd k a ((hF' k).2 (Or.inl b)), fun _ => Iff.rfl⟩, h2, fun k a b => ?_, fun k => by rw [hF k, hF' k, or_assoc]⟩, hin⟩
   rcases a with a | a
   ·exact hd k a ((hF' k).2 (Or.inr b))
   ·exact hd' k a b
theorem Own.turn (h : Own w0 F0 (A :: L) w) (f : ∀ F1, A.on w F1 -> Keep F1 w w' /\ ∃ F1', B.on w' F1' /\ ∀ k, F1' k -> F1 k ∨ w.heap.size <= k) : Own w0 F0 (B :: L) w' := by
 obtain ⟨k0, F, ⟨F1, F2, h1, h2, hd, hF⟩, hin⟩ := h
 obtain ⟨hk, F1', h1', hs⟩ := f F1 h1
 refine ⟨k0.step hk (fun i hi => hin i ((hF i).2 (Or.inl hi))), fun k => F1' k ∨ F2 k, ⟨F1', F2, h1', (stars L).loc h2 (fun k hk2 => hk.block k ((stars L).lt h2 k hk2) (fun hk1 => hd k hk1 hk2)), fun k a b => ?_, fun _ => Iff.rfl⟩, fun k hk2 => ?_⟩
 ·rcases hs k a with a | a
  ·exact hd k a b
  ·have := (stars L).lt h2 k b; omega
 ·rcases hk2 with a | b
  ·rcases hs k a with a | a
   ·exact hin k ((hF k).2 (Or.inl a))
   ·have := k0.size
    exact Or.inr (by omega)
  ·exact hin k ((hF k).2 (Or.inr b))
theorem Own.block {b : Nat} {o : Obj} (h : Own w0 F0 (blk b o :: L) w) : w.heap[b]? = some o := by
 obtain ⟨k0, F, ⟨F1, F2, h1, h2, hd, hF⟩, hin⟩ := h
 exact h1.1
theorem Own.isRow {v : Value} {e : TypeId} {size n : Nat} {xs : List Value} (h : Own w0 F0 (row v e size n xs :: L) w) : w.ownsRow 0 e size v n xs := by
 obtain ⟨k0, F, ⟨F1, F2, h1, h2, hd, hF⟩, hin⟩ := h
 exact h1.1
theorem Own.cell {b i : Nat} {c : Array Value} {e : TypeId} {fr : Nat × Nat} {v : Value} (h : Own w0 F0 (blk b (.cells c e fr) :: L) w) (hv : c[i]? = some v) : w.cell? ⟨b, i, none⟩ = some v := by
 rw [cell_of_row w b i c e fr h.block]; exact hv
theorem Own.set {b : Nat} {c : Array Value} {e : TypeId} {fr : Nat × Nat} (h : Own w0 F0 (blk b (.cells c e fr) :: L) w) (i : Nat) (v : Value) : Own w0 F0 (blk b (.cells (c.setIfInBounds i v) e fr) :: L) (w.setCell ⟨b, i, none⟩ v) := by
 refine h.turn fun F1 h1 => ⟨Keep.setCell w _ v ((h1.2 b).2 rfl), F1, ⟨?_, h1.2⟩, fun k hk => Or.inl hk⟩
 have := h1.1
 simp [World.setCell, Array.getElem?_modify, this]
theorem Own.grown {v v' : Value} {e : TypeId} {size n n' : Nat} {xs xs' : List Value} (h : Own w0 F0 (row v e size n xs :: L) w) (hg : w.grownBy w' v.ownBlock) (hr : w'.ownsRow 0 e size v' n' xs')
 (hv : ∀ k, v'.ownBlock = some k -> v.ownBlock = some k ∨ w.heap.size <= k) : Own w0 F0 (row v' e size n' xs' :: L) w' := by
 refine h.turn fun F1 h1 => ⟨Keep.grown hg (fun k hk => (h1.2 k).2 hk), fun k => v'.ownBlock = some k, ⟨hr, fun _ => Iff.rfl⟩, fun k hk => ?_⟩
 rcases hv k hk with h | h
 ·exact Or.inl ((h1.2 k).2 h)
 ·exact Or.inr h
theorem append_where {P : Program} (t ty e : TypeId) (i : TypeInfo) (z : Value) (ht : P.underlying t = some (.slice e)) (hi : P.info? e = some i) (hz : i.zero = some z)
 {size : Nat} (hsize : i.size = size) {bytes : Nat} (hby : i.bytes = bytes) {v : Value} {n : Nat} {xs : List Value} (hown : w.ownsRow 0 e size v n xs) (a : Addr) (m c : Nat) (news : List Value) (hl : news.length = m * size)
 (hnews : ∀ j u, news[j]? = some u -> w.cell? (a.add j) = some u) (h1 : ∀ u ∈ news, u.oneCell' = true) (h63 : n + m <= maxLen) (hbytes : (n + m) * bytes <= 140737488355328)
 {v' : Value} {w' : World} (hr : (Builtin.append_ #[t, t] ty #[v, .slice (some a) m c]).run P w = .ok v' w') : ∀ k, v'.ownBlock = some k -> v.ownBlock = some k ∨ w.heap.size <= k := by
 subst hsize
 subst hby
 have hsmall : n + m <= 9223372036854775807 := by simp only [maxLen] at h63; omega
 intro k hk
 rcases hown.2 with ⟨rfl, rfl⟩ | ⟨g, cap, cur, rfl, hb, hg, hnc, hcm, hcs, htake⟩
 ·by_cases hm : m = 0
  ·subst hm
   have hn : news = [] := List.eq_nil_of_length_eq_zero (by simpa using hl)
   subst hn
   simp [Builtin.append_, run_underlying ht, sizeOf, typeInfo, hi, Builtin.lenOf, Builtin.firstCells, loadCells, loadCellsFrom] at hr
   obtain ⟨rfl, rfl⟩ := hr
   simp [Value.ownBlock] at hk
  ·rw [run_append_nil (P := P) w t ty e i z ht hi hz a m c news hl hnews (by omega) (by omega) (by simp only [Nat.zero_add] at hbytes; omega)] at hr
   cases hr
   simp [Value.ownBlock] at hk
   exact Or.inr (by omega)
 ·by_cases hroom : n + m <= cap
  ·have hfit : n * i.size + news.length <= cur.size := by rw [hl, hcs, <- Nat.add_mul]; exact Nat.mul_le_mul_right _ hroom
   rw [run_append_room (P := P) w t ty e i ht hi g n cap cur hg a m c news hl hnews h1 hroom hfit] at hr
   cases hr
   exact Or.inl hk
  ·have holds : ∀ j u, xs[j]? = some u -> w.cell? ((⟨g, 0, none⟩ : Addr).add j) = some u := hown.cells (g := g) rfl
   rw [run_append_grow (P := P) w t ty e i z ht hi hz ⟨g, 0, none⟩ n cap xs hown.1 holds a m c news hl hnews (by omega) (by omega) (growslice_fits (by omega) hbytes)] at hr
   cases hr
   simp [Value.ownBlock] at hk
   exact Or.inr (by omega)
theorem zXm {P : Program} (t ty e : TypeId) (i : TypeInfo) (z : Value) {size bytes : Nat} (ht : P.underlying t = some (.slice e)) (hi : P.info? e = some i) (hz : i.zero = some z)
 (hsize : i.size = size) (hby : i.bytes = bytes) (hzs : z.cells.size = size) (hsz : 0 < size) {v : Value} {n : Nat} {xs : List Value} (h : Own w0 F0 (row v e size n xs :: L) w) (a : Addr) (m c : Nat) (news : List Value) (hl : news.length = m * size)
 (hnews : ∀ j u, news[j]? = some u -> w.cell? (a.add j) = some u) (h1 : ∀ u ∈ news, u.oneCell' = true) (h63 : n + m <= maxLen) (hbytes : (n + m) * bytes <= 140737488355328) :
 ∃ v' w', (Builtin.append_ #[t, t] ty #[v, .slice (some a) m c]).run P w = .ok v' w' /\ Own w0 F0 (row v' e size (n + m) (xs ++ news) :: L) w' /\ w.grownBy w' v.ownBlock /\ (v' = .slice none 0 0 ↔ v = .slice none 0 0 /\ m = 0) := by
 obtain ⟨v', w', hr, h2, h3, h4⟩ := run_append_own (P := P) w 0 t ty e i z size bytes ht hi hz hsize hby hzs hsz v n xs h.isRow a m c news hl hnews h1 h63 hbytes (Nat.zero_le _)
 exact ⟨v', w', hr, h.grown h3 h2 (append_where t ty e i z ht hi hz hsize hby h.isRow a m c news hl hnews h1 h63 hbytes hr), h3, h4⟩
theorem zZf {P : Program} {ops : Array Oper} {rest : List Oper} {o : Oper} {a : Act} {Q : Exit -> Act -> World -> Prop} (hgd : o.guard = none) (s x : Operand) (t : TypeId)
 (ho : o.op = .call { callee := .builtin .append, args := #[s, x], argTypes := #[t, t] }) (e : TypeId) (i : TypeInfo) (z : Value) {size bytes : Nat} (ht : P.underlying t = some (.slice e)) (hi : P.info? e = some i) (hz : i.zero = some z)
 (hsize : i.size = size) (hby : i.bytes = bytes) (hzs : z.cells.size = size) (hsz : 0 < size) {v : Value} {n : Nat} {xs : List Value} (hs : a.eval s = v) (h : Own w0 F0 (row v e size n xs :: L) w)
 (ad : Addr) (m c : Nat) (news : List Value) (hx : a.eval x = .slice (some ad) m c) (hl : news.length = m * size)
 (hnews : ∀ j u, news[j]? = some u -> w.cell? (ad.add j) = some u) (h1 : ∀ u ∈ news, u.oneCell' = true) (h63 : n + m <= maxLen) (hbytes : (n + m) * bytes <= 140737488355328)
 (hK : ∀ v' w', Own w0 F0 (row v' e size (n + m) (xs ++ news) :: L) w' -> w.grownBy w' v.ownBlock -> (v' = .slice none 0 0 ↔ v = .slice none 0 0 /\ m = 0) -> wpList P ops Q rest (a.put o.dst v') w') : wpList P ops Q (o :: rest) a w :=
 wpList_plain hgd fun _ hK' => by
  obtain ⟨v', w', hr, h2, h3, h4⟩ := zXm (P := P) t o.type e i z ht hi hz hsize hby hzs hsz h ad m c news hl hnews h1 h63 hbytes
  unfold Oper.wp execOp
  simp only [ho, resolve, invoke, builtin, Sem.run_bind, Sem.run_pure, Result.andThen_ok, List.map_toArray, List.map_cons, List.map_nil, hs, hx, hr]
  exact hK' _ _ (hK v' w' h2 h3 h4)
theorem zZp {P : Program} {ops : Array Oper} {o : Oper} {a : Act} {K : Act -> World -> Prop} {Q : Exit -> Act -> World -> Prop} {E : Prop} (hgd : o.guard = none) (s x : Operand) (t : TypeId)
 (ho : o.op = .call { callee := .builtin .append, args := #[s, x], argTypes := #[t, t] }) (e : TypeId) (i : TypeInfo) (z : Value) {size bytes : Nat} (ht : P.underlying t = some (.slice e)) (hi : P.info? e = some i) (hz : i.zero = some z)
 (hsize : i.size = size) (hby : i.bytes = bytes) (hzs : z.cells.size = size) (hsz : 0 < size) {v : Value} {n : Nat} {xs : List Value} (hs : a.eval s = v) (h : Own w0 F0 (row v e size n xs :: L) w)
 (ad : Addr) (m c : Nat) (news : List Value) (hx : a.eval x = .slice (some ad) m c) (hl : news.length = m * size)
 (hnews : ∀ j u, news[j]? = some u -> w.cell? (ad.add j) = some u) (h1 : ∀ u ∈ news, u.oneCell' = true) (h63 : n + m <= maxLen) (hbytes : (n + m) * bytes <= 140737488355328)
 (hK : ∀ v' w', Own w0 F0 (row v' e size (n + m) (xs ++ news) :: L) w' -> w.grownBy w' v.ownBlock -> (v' = .slice none 0 0 ↔ v = .slice none 0 0 /\ m = 0) -> K (a.put o.dst v') w') :
 if Region.wanted o (yielded ops a.tmps) = true then Oper.wp P o a w K Q else E := by
 have hw : Region.wanted o (yielded ops a.tmps) = true := by simp [Region.wanted, hgd]
 rw [if_pos hw]
 obtain ⟨v', w', hr, h2, h3, h4⟩ := zXm (P := P) t o.type e i z ht hi hz hsize hby hzs hsz h ad m c news hl hnews h1 h63 hbytes
 unfold Oper.wp execOp
 simp only [ho, resolve, invoke, builtin, Sem.run_bind, Sem.run_pure, Result.andThen_ok, List.map_toArray, List.map_cons, List.map_nil, hs, hx, hr]
 exact hK v' w' h2 h3 h4
theorem zYd (w : World) (c : List Value) (e : TypeId) (n : Nat) (hn : n = w.heap.size) : ∀ j u, c[j]? = some u -> (w.alloc (.cells c.toArray e)).cell? ((⟨n, 0, none⟩ : Addr).add j) = some u := by
 intro j u hu
 have e2 : (⟨n, 0, none⟩ : Addr).add j = ⟨n, j, none⟩ := by unfold Addr.add; split <;> simp_all
 rw [e2, hn, World.cell?_alloc_new]
 simpa using hu
theorem Own.ne {b c : Nat} {o o' : Obj} (h : Own w0 F0 (blk b o :: blk c o' :: L) w) : b ≠ c := by
 obtain ⟨k0, F, ⟨F1, F2, h1, ⟨F3, F4, h3, h4, hd', hF'⟩, hd, hF⟩, hin⟩ := h
 intro e
 subst e
 exact hd b ((h1.2 b).2 rfl) ((hF' b).2 (Or.inl ((h3.2 b).2 rfl)))
theorem Own.unfrozen {b i : Nat} {c : Array Value} {e : TypeId} (h : Own w0 F0 (blk b (.cells c e (0, 0)) :: L) w) : w.frozen? ⟨b, i, none⟩ = false := by
 simp [World.frozen?, h.block]
theorem Own.inHeap {b : Nat} {o : Obj} (h : Own w0 F0 (blk b o :: L) w) : b < w.heap.size := getElem?_lt h.block
theorem Own.rowBlk {v : Value} {e : TypeId} {size n : Nat} {xs : List Value} (h : Own w0 F0 (row v e size n xs :: L) w) (hn : 0 < n) :
 ∃ g cap cur, v = .slice (some ⟨g, 0, none⟩) n cap /\ n <= cap /\ cap <= maxLen /\ cur.size = cap * size /\ cur.toList.take (n * size) = xs /\ xs.length = n * size /\ Own w0 F0 (blk g (.cells cur e (0, 0)) :: L) w := by
 obtain ⟨k0, F, ⟨F1, F2, ⟨⟨hx, h1⟩, hv⟩, h2, hd, hF⟩, hin⟩ := h
 rcases h1 with ⟨_, h0⟩ | ⟨g, cap, cur, rfl, hb, hg, hnc, hcm, hcs, ht⟩
 ·omega
 ·refine ⟨g, cap, cur, rfl, hnc, hcm, hcs, ht, hx, k0, F, ⟨F1, F2, ⟨hg, fun k => ?_⟩, h2, hd, hF⟩, hin⟩
  rw [hv k]; simp [Value.ownBlock]; exact eq_comm
theorem Own.blkRow {e : TypeId} {size n g cap : Nat} {cur : Array Value} {xs : List Value} (h : Own w0 F0 (blk g (.cells cur e (0, 0)) :: L) w) (hnc : n <= cap) (hcm : cap <= maxLen) (hcs : cur.size = cap * size) (ht : cur.toList.take (n * size) = xs) (hx : xs.length = n * size) :
 Own w0 F0 (row (.slice (some ⟨g, 0, none⟩) n cap) e size n xs :: L) w := by
 obtain ⟨k0, F, ⟨F1, F2, ⟨hg, hv⟩, h2, hd, hF⟩, hin⟩ := h
 refine ⟨k0, F, ⟨F1, F2, ⟨⟨hx, Or.inr ⟨g, cap, cur, rfl, Nat.zero_le _, hg, hnc, hcm, hcs, ht⟩⟩, fun k => ?_⟩, h2, hd, hF⟩, hin⟩
 rw [hv k]; simp [Value.ownBlock]; exact eq_comm
theorem Own.rowNil {e : TypeId} {size : Nat} (h : Own w0 F0 L w) : Own w0 F0 (row (.slice none 0 0) e size 0 [] :: L) w := by
 obtain ⟨k0, F, h1, hin⟩ := h
 exact ⟨k0, F, ⟨fun _ => False, F, ⟨World.ownsRow_nil _ _ _ _, fun k => by simp [Value.ownBlock]⟩, h1, fun k h => h.elim, fun k => ⟨Or.inr, fun h => h.elim (fun h => h.elim) id⟩⟩, hin⟩
def Stp (w w' : World) : Prop := Below w.heap.size w w'
theorem Stp.refl (w : World) : Stp w w := Below.refl _ _
theorem Stp.trans {w w' w'' : World} (h : Stp w w') (k : Stp w' w'') : Stp w w'' :=
 Below.trans h ⟨Below.os k, Below.tape k, Below.output k, Below.size k, fun i hi => Below.block k i (Nat.lt_of_lt_of_le hi (Below.size h))⟩
theorem Stp.alloc {w w' : World} (h : Stp w w') (o : Obj) : Stp w (w'.alloc o) := h.trans ((Below.refl _ _).alloc (Nat.le_refl _) _)
theorem Stp.drew {w w' : World} (h : Stp w w') : Stp w w'.drew := h.trans ⟨rfl, rfl, rfl, Nat.le_refl _, fun _ _ => rfl⟩
theorem Stp.cell {w w' : World} (h : Stp w w') {a : Addr} {v : Value} (hc : w.cell? a = some v) : w'.cell? a = some v := by
 rw [Below.cell h (World.block_lt_of_cell? w _ hc)]; exact hc
end
section
theorem zT2 : ownKnob Tryz.prog.godebug = none := by kernel_rfl
theorem law_laid : laidOutB Tryz.prog = true := by kernel_rfl
theorem zW9 {H : Type} {enc : TypeId × Value -> H} {P : Program} {w : World} {base : Nat} {spare : Nat -> Bool} {held : Bool} : ∀ {ts : List TypeId} {vs : List Value} {ds : List (DataW H)} {ps : List MemPlace},
 DataW.TrodAll enc P w base spare held ts vs ds ps -> ds.length = ts.length /\ vs.length = ts.length
 | [], vs, ds, ps, h => by obtain ⟨rfl, rfl, rfl⟩ := trodAll_nil h; exact ⟨rfl, rfl⟩
 | t :: ts, vs, ds, ps, h => by
   obtain ⟨v, vs', d, ds', p, q, rfl, rfl, rfl, _, hr⟩ := trodAll_cons h
   have := zW9 hr
   simp [this.1, this.2]
theorem zVv {H : Type} {enc : TypeId × Value -> H} {W W' : World} (hb : Below W.heap.size W W') : ∀ {ts : List TypeId} {vs : List Value} {ds : List (DataW H)} {ps : List MemPlace},
 (∀ t ∈ ts, Tryz.prog.readableRec t = true /\ t < Tryz.prog.types.size) -> (∀ x ∈ ps, x.block < W.heap.size) →
 DataW.TrodAll enc Tryz.prog W 0 (fun _ => true) true ts vs ds ps -> DataW.TrodAll enc Tryz.prog W' 0 (fun b => decide (b < W.heap.size)) true ts vs ds ps
 | [], vs, ds, ps, _, _, h => by obtain ⟨rfl, rfl, rfl⟩ := trodAll_nil h; exact trodAll_mk0
 | t :: ts, vs, ds, ps, hr, hlt, h => by
   obtain ⟨v, vs', d, ds', p, q, rfl, rfl, rfl, h1, h2⟩ := trodAll_cons h
   exact trodAll_cons_mk (Below.trod law_laid (hr t (by simp)).1 (hr t (by simp)).2 h1 hb (fun x hx => hlt x (by simp [hx])))
    (zVv hb (fun t' ht' => hr t' (by simp [ht'])) (fun x hx => hlt x (by simp [hx])) h2)
def zUv (F : FuncId) (f : Func) : Prop :=
 ∀ (H : Type) (enc : TypeId × Value -> H) (W : World) (base : Nat) (args : Array Value) (ds : List (DataW H)) (p : List MemPlace),
  (∀ (j : Nat) t v, f.params[j]? = some t -> args[j]? = some v -> Value.okWide Tryz.prog W .any base t v) →
  DataW.TrodAll enc Tryz.prog W 0 (fun _ => true) true f.params.toList args.toList ds p →
  (∀ x ∈ p, x.block < W.heap.size) →
  (DataW.weightsEach Tryz.prog f.params.toList ds).all (· <= reachBytes) = true →
  Calls Tryz.prog F args W fun e W' => e = .returned (.bool true) /\ Below W.heap.size W W'
theorem law_post {H : Type} {enc : TypeId × Value -> H} {f : Func} {s : ChangeSpec} {tb : TypeId} {W W' : World} {args : Array Value} {ds gs : List (DataW H)} {before : List MemPlace}
 (hv : s.vars = []) (hs : s.fn H ds = { results := [.lit (.bool true)], args := ds }) (hr : f.resultTypes = #[tb]) (ht : Tryz.prog.underlying tb = some .bool)
 (hp : ∀ t ∈ f.params.toList, Tryz.prog.readableRec t = true /\ t < Tryz.prog.types.size)
 (hW : DataW.Whole enc Tryz.prog f.params.toList s.vars false W args.toList ds gs before) (hb : Below W.heap.size W W') :
 s.post enc Tryz.prog f false true false false W args (.bool true) W' := by
 have hW' := hW
 obtain ⟨p, q, hA, hV, rfl, hfz, hnd⟩ := hW
 rw [hv] at hV
 obtain ⟨rfl, rfl⟩ := trodVars_none hV
 have hlt : ∀ x ∈ p, x.block < W.heap.size := fun x hx => hW'.lt x (by simp [hx])
 refine ⟨ds, [], _, [], p, [], hW', ?_, ?_, ?_, hb.frame _, fun h => by cases h⟩
 ·rw [List.append_nil, hs, hr]
  exact trodAll_mk1 (shut_bool ht true)
 ·rw [List.append_nil, hs]
  exact zVv hb hp hlt hA
 ·rw [List.append_nil, hs, hv]; rfl
theorem zY3 {H : Type} {enc : TypeId × Value -> H} {F : FuncId} {f : Func} {s : ChangeSpec} {tb : TypeId} {W : World} {base : Nat} {args : Array Value} {ds gs : List (DataW H)} {before : List MemPlace}
 (run : zUv F f) (hv : s.vars = []) (hs : ∀ ds : List (DataW H), ds.length = f.params.toList.length -> s.fn H ds = { results := [.lit (.bool true)], args := ds }) (hr : f.resultTypes = #[tb]) (ht : Tryz.prog.underlying tb = some .bool)
 (hp : ∀ t ∈ f.params.toList, Tryz.prog.readableRec t = true /\ t < Tryz.prog.types.size)
 (hval : ∀ (j : Nat) t v, f.params[j]? = some t -> args[j]? = some v -> Value.okWide Tryz.prog W .any base t v)
 (hW : DataW.Whole enc Tryz.prog f.params.toList s.vars false W args.toList ds gs before)
 (hz : (DataW.weightsEach Tryz.prog (f.params.toList ++ s.plain.varTypes Tryz.prog) (ds ++ gs)).all (· <= reachBytes) = true) :
 Calls Tryz.prog F args W fun e W' => ∃ v, e = .returned v /\ s.post enc Tryz.prog f false true false false W args v W' := by
 have hW' := hW
 obtain ⟨p, q, hA, hV, rfl, hfz, hnd⟩ := hW
 have hV' := hV
 rw [hv] at hV'
 obtain ⟨rfl, rfl⟩ := trodVars_none hV'
 have hlt : ∀ x ∈ p, x.block < W.heap.size := fun x hx => hW'.lt x (by simp [hx])
 have hvt : s.plain.varTypes Tryz.prog = [] := by
  simp [DataSpec.varTypes, ChangeSpec.plain, hv]
 rw [hvt, List.append_nil, List.append_nil] at hz
 refine (run H enc W base args ds p hval hA hlt hz).mono fun e W' ⟨he, hb⟩ => ⟨_, he, law_post hv (hs ds (zW9 hA).1) hr ht hp hW' hb⟩
def zZc (W : World) (k : IntKind) (v : Value) (zs : List Int) : Prop :=
 (zs = [] /\ ∃ p cap, v = .slice p 0 cap) ∨
 (0 < zs.length /\ ∃ b off cap, v = .slice (some ⟨b, off, none⟩) zs.length cap /\ b < W.heap.size /\ ∀ j, j < zs.length -> W.cell? ⟨b, off + j, none⟩ = some (.int k (zs.getD j 0)))
theorem zYq {k : IntKind} {n : Int} (h : (Lit.int k n).wf = true) : k.min <= n /\ n <= k.max := by simpa [Lit.wf] using h
end
end Go.Proofs.YtdglnpfnjinbkaaGreat
