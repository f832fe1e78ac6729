/- Texts of elder layers, one behind the other: AdmitQueue. -/
import Derived.Test.YtdglnpfnjinbkaaGreatC35
import Derived.Deep.RegionHeld3
namespace Go.Proofs.YtdglnpfnjinbkaaGreat
open Go.ChangeShapes Go.WideShapes Go.ChangeAt Go.RowKit Go.Shelf
open Lib (hid)
set_option linter.unusedVariables false
set_option linter.unusedSimpArgs false
set_option maxRecDepth 100000
set_option maxHeartbeats 4000000
section
variable {w0 w w' W : World} {F0 : Nat -> Prop} {L : List Asn} {T : TypeId} {m : Nat} {ws : List Int} {lg : List Acc}
inductive TK where
 | cl | aq (i : Nat) | fl | sh | ct (i : Nat) | rf (i : Nat) | fr
abbrev Bg := List (Nat × Obj)
def tkOk (p : DP) (vp vl : Value) (kc : Nat) (l : Bg) : TK -> Value -> Value -> Prop
 | .cl, f, h => ∃ b, (b, asO p.c vp vl p.v p.n p.t kc) ∈ l /\ f = clo 193 #[ptr b] /\ h = clo 194 #[ptr b]
 | .aq i, f, h => ∃ b b2, (b, asO p.c vp vl p.v p.n p.t kc) ∈ l /\ (b2, inO (p.nd i)) ∈ l /\ f = clo 196 #[ptr b, ptr b2] /\ h = clo 199 #[ptr b, ptr b2]
 | .fl, f, h => ∃ b b2, (b, asO p.c vp vl p.v p.n p.t kc) ∈ l /\ (b2, inO (bdV p.v p.n)) ∈ l /\ f = clo 202 #[ptr b, ptr b2] /\ h = .nilFunc
 | .sh, f, h => ∃ b, (b, asO p.c vp vl p.v p.n p.t kc) ∈ l /\ f = clo 204 #[ptr b] /\ h = .nilFunc
 | .ct i, f, h => ∃ b b2, (b, asO p.c vp vl p.v p.n p.t kc) ∈ l /\ (b2, inO (p.nd i)) ∈ l /\ f = clo 205 #[ptr b, ptr b2] /\ h = .nilFunc
 | .rf i, f, h => ∃ b b2, (b, asO p.c vp vl p.v p.n p.t kc) ∈ l /\ (b2, inO (p.nd i)) ∈ l /\ f = clo 199 #[ptr b, ptr b2] /\ h = .nilFunc
 | .fr, f, h => ∃ b, (b, asO p.c vp vl p.v p.n p.t kc) ∈ l /\ f = clo 194 #[ptr b] /\ h = .nilFunc
section
variable {p : DP} {vp vl : Value} {kc : Nat} {l l' : Bg}
theorem tkOk_sub {k : TK} {f h : Value} (hs : Sub l l') (ht : tkOk p vp vl kc l k f h) : tkOk p vp vl kc l' k f h := by
 cases k <;> simp only [tkOk] at ht ⊢
 case cl => obtain ⟨b, h1, h2, h3⟩ := ht; exact ⟨b, hs _ h1, h2, h3⟩
 case aq i => obtain ⟨b, b2, h1, h2, h3, h4⟩ := ht; exact ⟨b, b2, hs _ h1, hs _ h2, h3, h4⟩
 case fl => obtain ⟨b, b2, h1, h2, h3, h4⟩ := ht; exact ⟨b, b2, hs _ h1, hs _ h2, h3, h4⟩
 case sh => obtain ⟨b, h1, h2, h3⟩ := ht; exact ⟨b, hs _ h1, h2, h3⟩
 case ct i => obtain ⟨b, b2, h1, h2, h3, h4⟩ := ht; exact ⟨b, b2, hs _ h1, hs _ h2, h3, h4⟩
 case rf i => obtain ⟨b, b2, h1, h2, h3, h4⟩ := ht; exact ⟨b, b2, hs _ h1, hs _ h2, h3, h4⟩
 case fr => obtain ⟨b, h1, h2, h3⟩ := ht; exact ⟨b, hs _ h1, h2, h3⟩
theorem tkOk_one {k : TK} {f h : Value} (ht : tkOk p vp vl kc l k f h) : f.oneCell' = true /\ h.oneCell' = true /\ (∃ g c d, f = .func g c d) := by
 cases k <;> simp only [tkOk] at ht
 case cl => obtain ⟨b, h1, rfl, rfl⟩ := ht; exact ⟨rfl, rfl, _, _, _, rfl⟩
 case aq i => obtain ⟨b, b2, h1, h2, rfl, rfl⟩ := ht; exact ⟨rfl, rfl, _, _, _, rfl⟩
 case fl => obtain ⟨b, b2, h1, h2, rfl, rfl⟩ := ht; exact ⟨rfl, rfl, _, _, _, rfl⟩
 case sh => obtain ⟨b, h1, rfl, rfl⟩ := ht; exact ⟨rfl, rfl, _, _, _, rfl⟩
 case ct i => obtain ⟨b, b2, h1, h2, rfl, rfl⟩ := ht; exact ⟨rfl, rfl, _, _, _, rfl⟩
 case rf i => obtain ⟨b, b2, h1, h2, rfl, rfl⟩ := ht; exact ⟨rfl, rfl, _, _, _, rfl⟩
 case fr => obtain ⟨b, h1, rfl, rfl⟩ := ht; exact ⟨rfl, rfl, _, _, _, rfl⟩
def TL (p : DP) (vp vl : Value) (kc : Nat) (l : Bg) : List TK -> List Value -> Prop
 | [], xs => xs = []
 | k :: K, xs => ∃ f h ys, xs = f :: h :: ys /\ tkOk p vp vl kc l k f h /\ TL p vp vl kc l K ys
theorem TL.sub (hs : Sub l l') : ∀ {K : List TK} {xs : List Value}, TL p vp vl kc l K xs -> TL p vp vl kc l' K xs
 | [], _, h => h
 | _ :: K, _, ⟨f, h, ys, e, h1, h2⟩ => ⟨f, h, ys, e, tkOk_sub hs h1, TL.sub hs h2⟩
theorem TL.app : ∀ {K K' : List TK} {xs ys : List Value}, TL p vp vl kc l K xs -> TL p vp vl kc l K' ys -> TL p vp vl kc l (K ++ K') (xs ++ ys)
 | [], _, xs, ys, h, h' => by have e : xs = [] := h; subst e; exact h'
 | _ :: K, _, xs, ys, ⟨f, h, zs, e, h1, h2⟩, h' => ⟨f, h, zs ++ ys, by rw [e]; rfl, h1, TL.app h2 h'⟩
theorem TL.one {k : TK} {f h : Value} (ht : tkOk p vp vl kc l k f h) : TL p vp vl kc l [k] [f, h] := ⟨f, h, [], rfl, ht, rfl⟩
theorem TL.length : ∀ {K : List TK} {xs : List Value}, TL p vp vl kc l K xs -> xs.length = K.length * 2
 | [], xs, h => by have e : xs = [] := h; subst e; rfl
 | _ :: K, xs, ⟨f, h, ys, e, _, h2⟩ => by rw [e]; simp only [List.length_cons]; have := TL.length h2; omega
theorem TL.ones : ∀ {K : List TK} {xs : List Value}, TL p vp vl kc l K xs -> ∀ u ∈ xs, u.oneCell' = true
 | [], xs, h => by have e : xs = [] := h; subst e; intro u hu; cases hu
 | _ :: K, xs, ⟨f, h, ys, e, h1, h2⟩ => by
   subst e
   intro u hu
   have ho := tkOk_one h1
   rcases List.mem_cons.1 hu with rfl | hu
   ·exact ho.1
   ·rcases List.mem_cons.1 hu with rfl | hu
    ·exact ho.2.1
    ·exact TL.ones h2 u hu
end
def aqs : Nat -> Nat -> List TK
 | _, 0 => []
 | i, k + 1 => .aq i :: aqs (i + 1) k
def cts : Nat -> Nat -> List TK
 | _, 0 => []
 | i, k + 1 => .ct i :: cts (i + 1) k
def backs : Nat -> List TK
 | 0 => [.fr]
 | i + 1 => .rf i :: backs i
theorem aqs_len : ∀ (k i : Nat), (aqs i k).length = k
 | 0, _ => rfl
 | k + 1, i => by unfold aqs; rw [List.length_cons, aqs_len k]
theorem zUu : ∀ (k i : Nat), (cts i k).length = k
 | 0, _ => rfl
 | k + 1, i => by unfold cts; rw [List.length_cons, zUu k]
theorem zX0 : ∀ i, (backs i).length = i + 1
 | 0 => rfl
 | i + 1 => by unfold backs; rw [List.length_cons, zX0 i]
theorem aqs_snoc : ∀ (k i : Nat), aqs i (k + 1) = aqs i k ++ [.aq (i + k)]
 | 0, i => rfl
 | k + 1, i => by
   rw [show aqs i (k + 1 + 1) = .aq i :: aqs (i + 1) (k + 1) from rfl, aqs_snoc k (i + 1), show aqs i (k + 1) = .aq i :: aqs (i + 1) k from rfl, show i + 1 + k = i + (k + 1) by omega]; rfl
theorem cts_snoc : ∀ (k i : Nat), cts i (k + 1) = cts i k ++ [.ct (i + k)]
 | 0, i => rfl
 | k + 1, i => by
   rw [show cts i (k + 1 + 1) = .ct i :: cts (i + 1) (k + 1) from rfl, cts_snoc k (i + 1), show cts i (k + 1) = .ct i :: cts (i + 1) k from rfl, show i + 1 + k = i + (k + 1) by omega]; rfl
def allT (n : Nat) : List TK := .cl :: (aqs 0 n ++ (.fl :: .sh :: cts 0 n))
theorem Tryz.info_task' : (Tryz.prog.info? 190).map (fun i => (i.zero, i.size, i.bytes)) = some (some (.agg #[.nilFunc, .nilFunc]), 2, 16) := by kernel_rfl
section
variable {p : DP} {kc : Nat} {a1 a2 : Option Addr} {z1 z2 : Nat}
set_option maxHeartbeats 8000000 in
theorem mTasks_any (hp : p.Ok) (hv : zZc w .i64 (.slice a1 p.c.ps.length z1) p.c.ps) (hl : zZc w .i64 (.slice a2 p.c.ls.length z2) p.c.ls) (h : Own w0 F0 L w) :
 Calls Tryz.prog 125 #[asVl p.c (.slice a1 p.c.ps.length z1) (.slice a2 p.c.ls.length z2) p.v p.n p.t kc] w fun e w' => ∃ v xs l, e = .returned v /\ TL p (.slice a1 p.c.ps.length z1) (.slice a2 p.c.ls.length z2) kc l (allT p.len) xs /\ Own w0 F0 (row v 190 2 (3 + p.len * 2) xs :: bag l :: L) w' := by
 obtain ⟨vp, hvp⟩ : ∃ vp, vp = Value.slice a1 p.c.ps.length z1 := ⟨_, rfl⟩
 obtain ⟨vl, hvl⟩ : ∃ vl, vl = Value.slice a2 p.c.ls.length z2 := ⟨_, rfl⟩
 have h1 := h.new (asO p.c (.slice a1 p.c.ps.length z1) (.slice a2 p.c.ls.length z2) p.v p.n p.t kc)
 have hs1 : Stp w (w.alloc (asO p.c (.slice a1 p.c.ps.length z1) (.slice a2 p.c.ls.length z2) p.v p.n p.t kc)) := (Stp.refl w).alloc _
 have HP := hid (Path_any (w := (w.alloc (asO p.c (.slice a1 p.c.ps.length z1) (.slice a2 p.c.ls.length z2) p.v p.n p.t kc))) p.c hp.rt.tr (hv.stp hs1) (hl.stp hs1) (p.v : Int) h1)
 obtain ⟨BX, hBX⟩ : ∃ BX, BX = w.heap.size := ⟨_, rfl⟩
 obtain ⟨c0, c1, c2, c3, c4, c5, c6, c7, c8, c9, c10, c11⟩ := zZ0 h1.block
 obtain ⟨hlen, hlen2⟩ := (DP.len_bd hp)
 have hnd := hid (fun i hi => DP.nd_int hp i hi)
 have hw64 : W64 (p.v : Int) /\ W64 p.n := by
  have := hp.v; have := hp.rt.n1; have := hp.n0; have := hp.n1; unfold W64; omega
 have HF4 := fun w => hid (mFill_any (w0 := w) (F0 := NoF) (L := []) (w := w) (c := p.c) (vp := .slice a1 p.c.ps.length z1) (vl := .slice a2 p.c.ls.length z2) (t := p.t) (kc := kc) hw64.1 hw64.2 (Own.start w))
 have HS4 := fun w => hid ((mShow_any (w0 := w) (F0 := NoF) (L := []) (w := w) (c := p.c) (vp := .slice a1 p.c.ps.length z1) (vl := .slice a2 p.c.ls.length z2) (v := p.v) (n := p.n) (t := p.t) (kc := kc) (Own.start w)).mono (R' := fun e w' => ∃ b3, e = .returned (.agg #[clo 204 #[ptr b3], .nilFunc]) /\ Own w NoF [blk b3 (asO p.c (.slice a1 p.c.ps.length z1) (.slice a2 p.c.ls.length z2) p.v p.n p.t kc)] w') fun e w' h => ⟨_, h.1, h.2⟩)
 unfold asVl asC at *
 unfold asO asC at HP c0 c1 c2 c3 c4 c5 c6 c7 c8 c9 c10 c11
 obtain ⟨i0, hi0, hz0, hz1, hz2⟩ := info_parts Tryz.info_task'
 have Hi0 := hid hi0
 have Hz0 := hid hz0
 have Hz1 := hid hz1
 have Hz2 := hid hz2
 clear hi0 hz0 hz1 hz2 h h1 hs1 hv hl hw64 hvp hvl
 go_enter Tryz.func125, Tryz.ntmps125
 go_wp2_with fail
 refine HP.out.mono ?_
 rintro e w1 ⟨vq, rfl, hO⟩
 obtain ⟨pq, cq, rfl⟩ := zZe hO
 clear HP c0 c1 c2 c3 c4 c5 c6 c7 c8 c9 c10 c11
 have hO : Own w0 F0 (row (.slice pq (path p.c.ps p.v).length cq) 3 1 (path p.c.ps p.v).length (intC (path p.c.ps p.v)) :: blk w.heap.size (asO p.c (.slice a1 p.c.ps.length z1) (.slice a2 p.c.ls.length z2) p.v p.n p.t kc) :: L) w1 := hO
 obtain ⟨c0, c1, c2, c3, c4, c5, c6, c7, c8, c9, c10, c11⟩ := zZ0 hO.swap.block
 have HC := hid (mClaim_any (c := p.c) (vp := (.slice a1 p.c.ps.length z1)) (vl := (.slice a2 p.c.ls.length z2)) (v := p.v) (n := p.n) (t := p.t) (kc := kc) hO)
 have hpl : (path p.c.ps p.v).length = p.len := rfl
 unfold asVl asC at HC
 clear hO
 go_wp2_with fail
 refine HC.out.mono ?_
 rintro e w2 ⟨rfl, hO⟩
 have h3 := (hO.new (.cells #[clo 193 #[ptr w1.heap.size], clo 194 #[ptr w1.heap.size]] 190)).blkRow (n := 1) (cap := 1) (size := 2) (xs := [clo 193 #[ptr w1.heap.size], clo 194 #[ptr w1.heap.size]]) (Nat.le_refl _) (by decide) rfl rfl rfl
 have h4 : Own w0 F0 (row (.slice (some ⟨w2.heap.size, 0, none⟩) 1 1) 190 2 1 [clo 193 #[ptr w1.heap.size], clo 194 #[ptr w1.heap.size]] :: bag [(w1.heap.size, (asO p.c (.slice a1 p.c.ps.length z1) (.slice a2 p.c.ls.length z2) p.v p.n p.t kc))] :: row (.slice pq (path p.c.ps p.v).length cq) 3 1 (path p.c.ps p.v).length (intC (path p.c.ps p.v)) :: blk w.heap.size (asO p.c (.slice a1 p.c.ps.length z1) (.slice a2 p.c.ls.length z2) p.v p.n p.t kc) :: L) _ := h3.under fun _ _ h => (Own.under h fun _ _ h => h.bagNil).bagAdd
 have HT0 : TL p (.slice a1 p.c.ps.length z1) (.slice a2 p.c.ls.length z2) kc [(w1.heap.size, (asO p.c (.slice a1 p.c.ps.length z1) (.slice a2 p.c.ls.length z2) p.v p.n p.t kc))] (.cl :: aqs 0 0) [clo 193 #[ptr w1.heap.size], clo 194 #[ptr w1.heap.size]] := TL.one ⟨_, List.mem_singleton_self _, rfl, rfl⟩
 have HT0 := hid HT0
 have H4 := hid h4
 clear hO h3 h4 HC c0 c1 c2 c3 c4 c5 c6 c7 c8 c9 c10 c11
 go_wp2_with fail
 go_loopw [4, 19] (fun v4 v19 wr => ∃ (i : Nat) (l : Bg) (xs : List Value), i <= p.len /\ v19 = .int .i64 i /\ TL p (.slice a1 p.c.ps.length z1) (.slice a2 p.c.ls.length z2) kc l (.cl :: aqs 0 i) xs /\ Own w0 F0 (row v4 190 2 (1 + i) xs :: bag l :: row (.slice pq (path p.c.ps p.v).length cq) 3 1 (path p.c.ps p.v).length (intC (path p.c.ps p.v)) :: blk w.heap.size (asO p.c (.slice a1 p.c.ps.length z1) (.slice a2 p.c.ls.length z2) p.v p.n p.t kc) :: L) wr) (fun v4 v19 _ => p.len - (intOf v19).toNat)
 case atStart => exact ⟨0, _, _, Nat.zero_le _, rfl, HT0.out, H4.out⟩
 case round =>
  obtain ⟨i, l, xs, hi, rfl, hTL, hO⟩ := hrel
  clear H4 HT0
  obtain ⟨pv, cv, rfl⟩ := zZe hO
  have HTL := hid hTL
  obtain ⟨c0, c1, c2, c3, c4, c5, c6, c7, c8, c9, c10, c11⟩ := zZ0 hO.p3.block
  obtain ⟨bq, oq, cq', eq_, hcq⟩ := (Own.intsAt hO.p2).at (by rw [hpl]; omega)
  injection eq_ with e1 e2 e3
  subst e1 e3
  by_cases hlt : i < p.len
  ·have j1 : (i : Int) < (p.len : Int) := by omega
   have x0 := hcq i hlt
   rw [show (path p.c.ps p.v).getD i 0 = (p.nd i : Int) by
    rw [<- hnd.out i hlt]
    have : i < (path p.c.ps p.v).length := hlt
    simp [List.getD, this]] at x0
   have HC := hid (mAcquire_any (c := p.c) (vp := (.slice a1 p.c.ps.length z1)) (vl := (.slice a2 p.c.ls.length z2)) (v := p.v) (n := p.n) (t := p.t) (kc := kc) (u := p.nd i) hO)
   have b1 : 1 + i + 1 <= maxLen := by unfold maxLen; omega
   have b2 : (1 + i + 1) * 16 <= 140737488355328 := by omega
   have i9 : (i : Int) <= 12 := by omega
   unfold asVl asC at HC
   clear hO hcq hTL
   go_wp2_with fail
   refine HC.out.mono ?_
   rintro e w3 ⟨rfl, hO⟩
   have hR0 : Own w0 F0 (row (.slice pv (1 + i) cv) 190 2 (1 + i) xs :: bag ((wr.heap.size, (asO p.c (.slice a1 p.c.ps.length z1) (.slice a2 p.c.ls.length z2) p.v p.n p.t kc)) :: (wr.heap.size + 1, inO (p.nd i)) :: l) :: row (.slice (some ⟨bq, oq, none⟩) (path p.c.ps p.v).length cq) 3 1 (path p.c.ps p.v).length (intC (path p.c.ps p.v)) :: blk w.heap.size (asO p.c (.slice a1 p.c.ps.length z1) (.slice a2 p.c.ls.length z2) p.v p.n p.t kc) :: L) w3 := (((hO.under fun _ _ h => h.swap).swap).under fun _ _ h => (Own.under h fun _ _ h => h.bagAdd).bagAdd)
   have HR0 := hid (hR0.alloc (.cells #[clo 196 #[ptr wr.heap.size, ptr (wr.heap.size + 1)], clo 199 #[ptr wr.heap.size, ptr (wr.heap.size + 1)]] 190))
   have Hnw := hid (zYd w3 [clo 196 #[ptr wr.heap.size, ptr (wr.heap.size + 1)], clo 199 #[ptr wr.heap.size, ptr (wr.heap.size + 1)]] 190 _ rfl)
   have hT2 := TL.app (HTL.out.sub (l' := ((wr.heap.size, (asO p.c (.slice a1 p.c.ps.length z1) (.slice a2 p.c.ls.length z2) p.v p.n p.t kc)) :: (wr.heap.size + 1, inO (p.nd i)) :: l)) (((Sub.refl _).cons _).cons _)) (TL.one (k := .aq i) (show tkOk p (.slice a1 p.c.ps.length z1) (.slice a2 p.c.ls.length z2) kc ((wr.heap.size, (asO p.c (.slice a1 p.c.ps.length z1) (.slice a2 p.c.ls.length z2) p.v p.n p.t kc)) :: (wr.heap.size + 1, inO (p.nd i)) :: l) (.aq i) (clo 196 #[ptr wr.heap.size, ptr (wr.heap.size + 1)]) (clo 199 #[ptr wr.heap.size, ptr (wr.heap.size + 1)]) from ⟨_, _, List.mem_cons_self .., List.mem_cons_of_mem _ (List.mem_cons_self ..), rfl, rfl⟩))
   have hT3 : TL p (.slice a1 p.c.ps.length z1) (.slice a2 p.c.ls.length z2) kc ((wr.heap.size, (asO p.c (.slice a1 p.c.ps.length z1) (.slice a2 p.c.ls.length z2) p.v p.n p.t kc)) :: (wr.heap.size + 1, inO (p.nd i)) :: l) (.cl :: aqs 0 (i + 1)) (xs ++ [clo 196 #[ptr wr.heap.size, ptr (wr.heap.size + 1)], clo 199 #[ptr wr.heap.size, ptr (wr.heap.size + 1)]]) := by
    rw [show (.cl :: aqs 0 (i + 1) : List TK) = (.cl :: aqs 0 i) ++ [.aq i] by rw [aqs_snoc, Nat.zero_add]; rfl]; exact hT2
   have HT3 := hid hT3
   clear hR0 hO HC c0 c1 c2 c3 c4 c5 c6 c7 c8 c9 c10 c11 hT2 hT3
   unfold clo ptr at HR0 Hnw
   go_wp2_with (first | (at_builtin; refine zZf rfl (.tmp 23) (.tmp 27) 153 rfl 190 i0 _ Tryz.underlying153 Hi0.out Hz0.out Hz1.out Hz2.out rfl (by decide) rfl HR0.out ⟨w3.heap.size, 0, none⟩ 1 1 _ rfl rfl Hnw.out (by simp [Value.oneCell']) b1 b2 ?_; intro v' w8 hR hgr hn; obtain ⟨p', cp', rfl⟩ := zZe hR; clear hgr hn HR0 Hnw))
   have HQ := hid hR
   clear hR
   go_wp2_with fail
   go_roundw
   case rel => exact ⟨i + 1, _, _, by omega, by go_num, HT3.out, by have h := HQ.out; rw [show 1 + (i + 1) = 1 + i + 1 by omega]; exact h⟩
   case measure => simp [intOf]; omega
  ·obtain rfl : i = p.len := by omega
   clear hlt hi
   have HOd := hid (hO.drew)
   have hO' := hO.drew
   obtain ⟨c0, c1, c2, c3, c4, c5, c6, c7, c8, c9, c10, c11⟩ := zZ0 hO'.p3.block
   clear hO hO' hcq hTL
   have B1 := hid (show 1 + p.len + 2 <= maxLen by unfold maxLen; omega)
   have B2 := hid (show (1 + p.len + 2) * 16 <= 140737488355328 by omega)
   go_wp2_with fail
   go_region_held3 (fun w' => w'.cell? ⟨w.heap.size, 0, none⟩ = some (.int .i64 p.c.th) /\ w'.cell? ⟨w.heap.size, 1, none⟩ = some (.int .i64 p.c.st) /\ w'.cell? ⟨w.heap.size, 2, none⟩ = some (.int .i64 p.c.ga) /\ w'.cell? ⟨w.heap.size, 3, none⟩ = some (.int .i64 p.c.le) /\ w'.cell? ⟨w.heap.size, 4, none⟩ = some (.int .i64 p.c.re) /\ w'.cell? ⟨w.heap.size, 5, none⟩ = some (.int .i64 p.c.ti) /\ w'.cell? ⟨w.heap.size, 6, none⟩ = some ((.slice a1 p.c.ps.length z1)) /\ w'.cell? ⟨w.heap.size, 7, none⟩ = some ((.slice a2 p.c.ls.length z2)) /\ w'.cell? ⟨w.heap.size, 8, none⟩ = some (.int .i64 p.v) /\ w'.cell? ⟨w.heap.size, 9, none⟩ = some (.int .i64 p.n) /\ w'.cell? ⟨w.heap.size, 10, none⟩ = some (.int .i64 p.t) /\ w'.cell? ⟨w.heap.size, 11, none⟩ = some (.pointer (some ⟨kc, 0, none⟩))) (go_keep) (first | (refine zZp rfl (.tmp 30) (.tmp 35) 153 rfl 190 i0 _ Tryz.underlying153 Hi0.out Hz0.out Hz1.out Hz2.out rfl (by decide) (by simp [Act.eval]) (HOd.out.p3.alloc (.cells #[.func (Fn.func 202) #[] #[.pointer (some ⟨b, 0, none⟩), .pointer (some ⟨b2, 0, none⟩)], .nilFunc, .func (Fn.func 204) #[] #[.pointer (some ⟨b3, 0, none⟩)], .nilFunc] 190)) ⟨w6.heap.size, 0, none⟩ 2 2 [.func (Fn.func 202) #[] #[.pointer (some ⟨b, 0, none⟩), .pointer (some ⟨b2, 0, none⟩)], .nilFunc, .func (Fn.func 204) #[] #[.pointer (some ⟨b3, 0, none⟩)], .nilFunc] (by simp [Act.eval]) rfl (zYd w6 [.func (Fn.func 202) #[] #[.pointer (some ⟨b, 0, none⟩), .pointer (some ⟨b2, 0, none⟩)], .nilFunc, .func (Fn.func 204) #[] #[.pointer (some ⟨b3, 0, none⟩)], .nilFunc] _ _ rfl) (by simp [Value.oneCell']) B1.out B2.out ?_; intro v' w8 hR hgr hn; obtain ⟨p', cp', rfl⟩ := zZe hR; obtain ⟨c0, c1, c2, c3, c4, c5, c6, c7, c8, c9, c10, c11⟩ := zZ0 hR.p6.block; clear hgr hn) | (refine zZp rfl (.tmp 30) (.tmp 35) 153 rfl 190 i0 _ Tryz.underlying153 Hi0.out Hz0.out Hz1.out Hz2.out rfl (by decide) (by simp [Act.eval]) (HOd.out.p3.alloc (.cells #[.func (Fn.func 202) #[] #[.pointer (some ⟨b, 0, none⟩), .pointer (some ⟨b2, 0, none⟩)], .nilFunc, .func (Fn.func 204) #[] #[.pointer (some ⟨b3, 0, none⟩)], .nilFunc] 190)) ⟨w7.heap.size, 0, none⟩ 2 2 [.func (Fn.func 202) #[] #[.pointer (some ⟨b, 0, none⟩), .pointer (some ⟨b2, 0, none⟩)], .nilFunc, .func (Fn.func 204) #[] #[.pointer (some ⟨b3, 0, none⟩)], .nilFunc] (by simp [Act.eval]) rfl (zYd w7 [.func (Fn.func 202) #[] #[.pointer (some ⟨b, 0, none⟩), .pointer (some ⟨b2, 0, none⟩)], .nilFunc, .func (Fn.func 204) #[] #[.pointer (some ⟨b3, 0, none⟩)], .nilFunc] _ _ rfl) (by simp [Value.oneCell']) B1.out B2.out ?_; intro v' w8 hR hgr hn; obtain ⟨p', cp', rfl⟩ := zZe hR; obtain ⟨c0, c1, c2, c3, c4, c5, c6, c7, c8, c9, c10, c11⟩ := zZ0 hR.p6.block; clear hgr hn) | (go_at_call 159; refine (HF4 _).out.mono ?_; rintro e w6 ⟨b, b2, rfl, hK⟩; have hB : Stp _ w6 := hK.toBelow; have HOd := hid (HOd.out.lift hK); have c0 := Stp.cell hB c0; have c1 := Stp.cell hB c1; have c2 := Stp.cell hB c2; have c3 := Stp.cell hB c3; have c4 := Stp.cell hB c4; have c5 := Stp.cell hB c5; have c6 := Stp.cell hB c6; have c7 := Stp.cell hB c7; have c8 := Stp.cell hB c8; have c9 := Stp.cell hB c9; have c10 := Stp.cell hB c10; have c11 := Stp.cell hB c11) | (go_at_call 160; refine (HS4 _).out.mono ?_; rintro e w7 ⟨b3, rfl, hK⟩; have hB : Stp _ w7 := hK.toBelow; have HOd := hid (HOd.out.lift hK); have c0 := Stp.cell hB c0; have c1 := Stp.cell hB c1; have c2 := Stp.cell hB c2; have c3 := Stp.cell hB c3; have c4 := Stp.cell hB c4; have c5 := Stp.cell hB c5; have c6 := Stp.cell hB c6; have c7 := Stp.cell hB c7; have c8 := Stp.cell hB c8; have c9 := Stp.cell hB c9; have c10 := Stp.cell hB c10; have c11 := Stp.cell hB c11))
   all_goals
    have hN : ∃ l', Sub l l' /\ (b, (asO p.c (.slice a1 p.c.ps.length z1) (.slice a2 p.c.ls.length z2) p.v p.n p.t kc)) ∈ l' /\ (b2, inO (bdV p.v p.n)) ∈ l' /\ (b3, (asO p.c (.slice a1 p.c.ps.length z1) (.slice a2 p.c.ls.length z2) p.v p.n p.t kc)) ∈ l' /\ Own w0 F0 (row (.slice p' (1 + p.len + 2) cp') 190 2 (1 + p.len + 2) (xs ++ [.func (Fn.func 202) #[] #[.pointer (some ⟨b, 0, none⟩), .pointer (some ⟨b2, 0, none⟩)], .nilFunc, .func (Fn.func 204) #[] #[.pointer (some ⟨b3, 0, none⟩)], .nilFunc]) :: bag l' :: row (.slice (some ⟨bq, oq, none⟩) (path p.c.ps p.v).length cq) 3 1 (path p.c.ps p.v).length (intC (path p.c.ps p.v)) :: blk w.heap.size (asO p.c (.slice a1 p.c.ps.length z1) (.slice a2 p.c.ls.length z2) p.v p.n p.t kc) :: L) w8 :=
     ⟨_, ((((Sub.refl l).cons _).cons _).cons _), by simp, by simp, by simp, Own.bag3 hR⟩
    obtain ⟨l', hs', m1, m2, m3, hN⟩ := hN
    have hT2 : TL p (.slice a1 p.c.ps.length z1) (.slice a2 p.c.ls.length z2) kc l' (.cl :: (aqs 0 p.len ++ (.fl :: .sh :: cts 0 0))) (xs ++ [.func (Fn.func 202) #[] #[.pointer (some ⟨b, 0, none⟩), .pointer (some ⟨b2, 0, none⟩)], .nilFunc, .func (Fn.func 204) #[] #[.pointer (some ⟨b3, 0, none⟩)], .nilFunc]) :=
     TL.app (K := .cl :: aqs 0 p.len) (K' := [.fl, .sh]) (HTL.out.sub hs') (TL.app (K := [.fl]) (K' := [.sh]) (TL.one ⟨_, _, m1, m2, rfl, rfl⟩) (TL.one ⟨_, m3, rfl, rfl⟩))
    have HT2 := hid hT2
    have HN := hid hN
    clear hR hN hT2 hs' m1 m2 m3 HOd HTL c0 c1 c2 c3 c4 c5 c6 c7 c8 c9 c10 c11 hK hB HF4 HS4 B1 B2
    go_wp2_with fail
    go_loopw [4, 39] (fun v4 v39 wr => ∃ (i : Nat) (l : Bg) (xs : List Value), i <= p.len /\ v39 = .int .i64 i /\ TL p (.slice a1 p.c.ps.length z1) (.slice a2 p.c.ls.length z2) kc l (.cl :: (aqs 0 p.len ++ (.fl :: .sh :: cts 0 i))) xs /\ Own w0 F0 (row v4 190 2 (1 + p.len + 2 + i) xs :: bag l :: row (.slice (some ⟨bq, oq, none⟩) (path p.c.ps p.v).length cq) 3 1 (path p.c.ps p.v).length (intC (path p.c.ps p.v)) :: blk w.heap.size (asO p.c (.slice a1 p.c.ps.length z1) (.slice a2 p.c.ls.length z2) p.v p.n p.t kc) :: L) wr) (fun v4 v39 _ => p.len - (intOf v39).toNat)
    case atStart => exact ⟨0, _, _, Nat.zero_le _, rfl, HT2.out, HN.out⟩
    case round =>
     obtain ⟨i, l, xs, hi, rfl, hTL, hO⟩ := hrel
     clear HN HT2
     obtain ⟨pv, cv, rfl⟩ := zZe hO
     have HTL := hid hTL
     obtain ⟨c0, c1, c2, c3, c4, c5, c6, c7, c8, c9, c10, c11⟩ := zZ0 hO.p3.block
     obtain ⟨bq2, oq2, cq2, eq_, hcq⟩ := (Own.intsAt hO.p2).at (by rw [hpl]; omega)
     injection eq_ with e1 e2 e3
     injection e1 with e1
     injection e1 with e1 e4 _
     subst e1 e4 e3
     by_cases hlt : i < p.len
     ·have j1 : (i : Int) < (p.len : Int) := by omega
      have x0 := hcq i hlt
      rw [show (path p.c.ps p.v).getD i 0 = (p.nd i : Int) by
       rw [<- hnd.out i hlt]
       have : i < (path p.c.ps p.v).length := hlt
       simp [List.getD, this]] at x0
      have HC := hid (mCount_any (c := p.c) (vp := (.slice a1 p.c.ps.length z1)) (vl := (.slice a2 p.c.ls.length z2)) (v := p.v) (n := p.n) (t := p.t) (kc := kc) (u := p.nd i) hO)
      have b1 : 1 + p.len + 2 + i + 1 <= maxLen := by unfold maxLen; omega
      have b2 : (1 + p.len + 2 + i + 1) * 16 <= 140737488355328 := by omega
      have i9 : (i : Int) <= 12 := by omega
      unfold asVl asC at HC
      clear hO hcq hTL
      go_wp2_with fail
      refine HC.out.mono ?_
      rintro e w3 ⟨rfl, hO⟩
      have hR0 : Own w0 F0 (row (.slice pv (1 + p.len + 2 + i) cv) 190 2 (1 + p.len + 2 + i) xs :: bag ((wr.heap.size, (asO p.c (.slice a1 p.c.ps.length z1) (.slice a2 p.c.ls.length z2) p.v p.n p.t kc)) :: (wr.heap.size + 1, inO (p.nd i)) :: l) :: row (.slice (some ⟨bq, oq, none⟩) (path p.c.ps p.v).length cq) 3 1 (path p.c.ps p.v).length (intC (path p.c.ps p.v)) :: blk w.heap.size (asO p.c (.slice a1 p.c.ps.length z1) (.slice a2 p.c.ls.length z2) p.v p.n p.t kc) :: L) w3 := (((hO.under fun _ _ h => h.swap).swap).under fun _ _ h => (Own.under h fun _ _ h => h.bagAdd).bagAdd)
      have HR0 := hid (hR0.alloc (.cells #[clo 205 #[ptr wr.heap.size, ptr (wr.heap.size + 1)], .nilFunc] 190))
      have Hnw := hid (zYd w3 [clo 205 #[ptr wr.heap.size, ptr (wr.heap.size + 1)], .nilFunc] 190 _ rfl)
      have hT2 := TL.app (HTL.out.sub (l' := ((wr.heap.size, (asO p.c (.slice a1 p.c.ps.length z1) (.slice a2 p.c.ls.length z2) p.v p.n p.t kc)) :: (wr.heap.size + 1, inO (p.nd i)) :: l)) (((Sub.refl _).cons _).cons _)) (TL.one (k := .ct i) (show tkOk p (.slice a1 p.c.ps.length z1) (.slice a2 p.c.ls.length z2) kc ((wr.heap.size, (asO p.c (.slice a1 p.c.ps.length z1) (.slice a2 p.c.ls.length z2) p.v p.n p.t kc)) :: (wr.heap.size + 1, inO (p.nd i)) :: l) (.ct i) (clo 205 #[ptr wr.heap.size, ptr (wr.heap.size + 1)]) (.nilFunc) from ⟨_, _, List.mem_cons_self .., List.mem_cons_of_mem _ (List.mem_cons_self ..), rfl, rfl⟩))
      have hT3 : TL p (.slice a1 p.c.ps.length z1) (.slice a2 p.c.ls.length z2) kc ((wr.heap.size, (asO p.c (.slice a1 p.c.ps.length z1) (.slice a2 p.c.ls.length z2) p.v p.n p.t kc)) :: (wr.heap.size + 1, inO (p.nd i)) :: l) (.cl :: (aqs 0 p.len ++ (.fl :: .sh :: cts 0 (i + 1)))) (xs ++ [clo 205 #[ptr wr.heap.size, ptr (wr.heap.size + 1)], .nilFunc]) := by
       rw [show (.cl :: (aqs 0 p.len ++ (.fl :: .sh :: cts 0 (i + 1))) : List TK) = (.cl :: (aqs 0 p.len ++ (.fl :: .sh :: cts 0 i))) ++ [.ct i] by rw [cts_snoc, Nat.zero_add]; simp]; exact hT2
      have HT3 := hid hT3
      clear hR0 hO HC c0 c1 c2 c3 c4 c5 c6 c7 c8 c9 c10 c11 hT2 hT3
      unfold clo ptr at HR0 Hnw
      go_wp2_with (first | (at_builtin; refine zZf rfl (.tmp 43) (.tmp 47) 153 rfl 190 i0 _ Tryz.underlying153 Hi0.out Hz0.out Hz1.out Hz2.out rfl (by decide) rfl HR0.out ⟨w3.heap.size, 0, none⟩ 1 1 _ rfl rfl Hnw.out (by simp [Value.oneCell']) b1 b2 ?_; intro v' w8 hR hgr hn; obtain ⟨p', cp', rfl⟩ := zZe hR; clear hgr hn HR0 Hnw))
      have HQ := hid hR
      clear hR
      go_roundw
      case rel => exact ⟨i + 1, _, _, by omega, by go_num, HT3.out, by have h := HQ.out; rw [show 1 + p.len + 2 + (i + 1) = 1 + p.len + 2 + i + 1 by omega]; exact h⟩
      case measure => simp [intOf]; omega
     ·obtain rfl : i = p.len := by omega
      clear hlt hi
      have hF := hO
      rw [show 1 + p.len + 2 + p.len = 3 + p.len * 2 by omega] at hF
      have HF := hid (hF.under fun _ _ h => Own.under h fun _ _ h => h.drop.drop)
      have e9 : 1 + p.len + 2 + p.len = 3 + p.len * 2 := by omega
      clear hO hcq hF c0 c1 c2 c3 c4 c5 c6 c7 c8 c9 c10 c11
      go_wp2_with fail
      go_ret
      exact ⟨_, rfl, xs, l, HTL.out, HF.out⟩
def QOk (p : DP) (vp vl : Value) (kc : Nat) (l : Bg) (v : Value) (K : List TK) : Prop :=
 (K = [] /\ ∃ q c, v = .slice q 0 c) ∨ (∃ k0 K0, K = k0 :: K0 /\ ∃ b o cap cells xs, v = .slice (some ⟨b, o, none⟩) (K0.length + 1) cap /\ K0.length + 1 <= cap /\ cap <= maxLen /\ (b, .cells cells 190 (0, 0)) ∈ l /\ TL p vp vl kc l K xs /\ ∀ j u, xs[j]? = some u -> cells[o + j]? = some u)
theorem QOk.sub {vp vl v : Value} {l l' : Bg} {K : List TK} (hs : Sub l l') (h : QOk p vp vl kc l v K) : QOk p vp vl kc l' v K := by
 rcases h with h | ⟨k0, K0, e, b, o, cap, cells, xs, h1, h2, h3, h4, h5, h6⟩
 ·exact Or.inl h
 ·exact Or.inr ⟨k0, K0, e, b, o, cap, cells, xs, h1, h2, h3, hs _ h4, h5.sub hs, h6⟩
theorem QOk.of_row {vp vl v : Value} {l : Bg} {k0 : TK} {K : List TK} {n : Nat} {xs : List Value} (hn : n = K.length + 1) (ht : TL p vp vl kc l (k0 :: K) xs) (h : Own w0 F0 (row v 190 2 n xs :: bag l :: L) w) :
 ∃ l', Sub l l' /\ QOk p vp vl kc l' v (k0 :: K) /\ (∃ b cap, v = .slice (some ⟨b, 0, none⟩) n cap) /\ Own w0 F0 (bag l' :: L) w := by
 obtain ⟨b, cap, cur, rfl, h1, h2, h3, h4, h5, h6⟩ := h.rowBlk (by omega)
 refine ⟨(b, .cells cur 190 (0, 0)) :: l, (Sub.refl l).cons _, ?_, ⟨b, cap, rfl⟩, h6.bagAdd⟩
 subst hn
 refine Or.inr ⟨k0, K, rfl, b, 0, cap, cur, xs, rfl, h1, h2, List.mem_cons_self .., ht.sub ((Sub.refl l).cons _), fun j u hu => ?_⟩
 have hj : j < xs.length := by
  rcases Nat.lt_or_ge j xs.length with h | h
  ·exact h
  ·rw [List.getElem?_eq_none h] at hu; cases hu
 rw [Nat.zero_add, <- h4] at *
 rw [List.getElem?_take_of_lt (by omega)] at hu
 rw [<- hu]; simp
theorem QOk.next {vp vl v : Value} {l : Bg} {k0 : TK} {K : List TK} (h : QOk p vp vl kc l v (k0 :: K)) :
 ∃ b o cap f g, v = .slice (some ⟨b, o, none⟩) (K.length + 1) cap /\ K.length + 1 <= cap /\ cap <= maxLen /\ tkOk p vp vl kc l k0 f g /\ (∀ {w0 F0 L w}, Own w0 F0 (bag l :: L) w -> w.cell? ⟨b, o, none⟩ = some f /\ w.cell? ⟨b, o + 1, none⟩ = some g) /\
  QOk p vp vl kc l (if 1 < cap then .slice (some ⟨b, o + 2, none⟩) K.length (cap - 1) else .slice (some ⟨b, o, none⟩) K.length (cap - 1)) K /\ (∃ ob, (b, ob) ∈ l) := by
 rcases h with ⟨h, _⟩ | ⟨k1, K1, e, b, o, cap, cells, xs, rfl, h2, h3, h4, h5, h6⟩
 ·cases h
 ·injection e with e1 e2
  subst e1 e2
  obtain ⟨f, g, ys, rfl, ht, hT⟩ := h5
  refine ⟨b, o, cap, f, g, rfl, h2, h3, ht, fun h => ⟨?_, ?_⟩, ?_, ⟨_, h4⟩⟩
  ·have := h6 0 f rfl
   exact h.bagCell h4 (by simpa using this)
  ·have := h6 1 g rfl
   exact h.bagCell h4 this
  ·cases K with
   | nil =>
     refine Or.inl ⟨rfl, ?_⟩
     split <;> exact ⟨_, _, rfl⟩
   | cons k2 K2 =>
     have hc : 1 < cap := by simp only [List.length_cons] at h2; omega
     rw [if_pos hc]
     refine Or.inr ⟨k2, K2, rfl, b, o + 2, cap - 1, cells, ys, rfl, by simp only [List.length_cons] at h2; omega, by omega, h4, hT, fun j u hu => ?_⟩
     have := h6 (j + 2) u (by simpa using hu)
     rw [show o + (j + 2) = o + 2 + j by omega] at this
     exact this
end
end
end Go.Proofs.YtdglnpfnjinbkaaGreat
