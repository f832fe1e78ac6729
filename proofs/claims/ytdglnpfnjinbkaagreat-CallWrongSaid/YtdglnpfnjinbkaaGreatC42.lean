/- Texts of elder layers, one behind the other: ReleaseOpen. -/
import Derived.Test.YtdglnpfnjinbkaaGreatC41
import Derived.Deep.RegionHeld3
namespace Go.Proofs.YtdglnpfnjinbkaaGreat
open Go.ChangeShapes Go.WideShapes Go.ChangeAt Go.RowKit Go.Shelf
open Lib (hid)
set_option linter.unusedVariables false
set_option linter.unusedSimpArgs false
set_option maxRecDepth 100000
set_option maxHeartbeats 4000000
section
variable {w0 w w' W : World} {F0 : Nat -> Prop} {L : List Asn} {T : TypeId} {m : Nat} {ws : List Int} {lg : List Acc}
inductive SK where
 | fi | ke | op | rf (u : Nat) | ct (u : Nat) | st (b : Nat) | fr
abbrev Bq := List (Nat × Obj)
def skOk (g : Nat) (l : Bq) : SK -> Value -> Prop
 | .fi, f => f = mv 129 g
 | .ke, f => f = mv 172 g
 | .op, f => f = mv 220 g
 | .rf u, f => ∃ b1 b2 b3, (b1, fnO (clo 246 #[ptr b2, ptr b3])) ∈ l /\ (b2, pmR g) ∈ l /\ (b3, inO u) ∈ l /\ f = clo 252 #[ptr b1]
 | .ct u, f => ∃ b1 b2 b3, (b1, fnO (clo 247 #[ptr b2, ptr b3])) ∈ l /\ (b2, pmR g) ∈ l /\ (b3, inO u) ∈ l /\ f = clo 252 #[ptr b1]
 | .st b, f => f = clo 260 #[ptr b]
 | .fr, f => f = mv 239 g
section
variable {g : Nat} {l l' : Bq}
theorem skOk_sub {k : SK} {f : Value} (hs : Sub l l') (ht : skOk g l k f) : skOk g l' k f := by
 cases k <;> simp only [skOk] at ht ⊢
 case fi => exact ht
 case ke => exact ht
 case op => exact ht
 case rf u => obtain ⟨b, b2, b3, h1, h2, h3, h4⟩ := ht; exact ⟨b, b2, b3, hs _ h1, hs _ h2, hs _ h3, h4⟩
 case ct u => obtain ⟨b, b2, b3, h1, h2, h3, h4⟩ := ht; exact ⟨b, b2, b3, hs _ h1, hs _ h2, hs _ h3, h4⟩
 case st b => exact ht
 case fr => exact ht
theorem skOk_one {k : SK} {f : Value} (ht : skOk g l k f) : f.oneCell' = true := by
 cases k <;> simp only [skOk] at ht
 case fi => subst ht; rfl
 case ke => subst ht; rfl
 case op => subst ht; rfl
 case rf u => obtain ⟨b, b2, b3, h1, h2, h3, rfl⟩ := ht; rfl
 case ct u => obtain ⟨b, b2, b3, h1, h2, h3, rfl⟩ := ht; rfl
 case st b => subst ht; rfl
 case fr => subst ht; rfl
def SL (g : Nat) (l : Bq) : List SK -> List Value -> Prop
 | [], xs => xs = []
 | k :: K, xs => ∃ f ys, xs = f :: ys /\ skOk g l k f /\ SL g l K ys
theorem SL.sub (hs : Sub l l') : ∀ {K : List SK} {xs : List Value}, SL g l K xs -> SL g l' K xs
 | [], _, h => h
 | _ :: K, _, ⟨f, ys, e, h1, h2⟩ => ⟨f, ys, e, skOk_sub hs h1, SL.sub hs h2⟩
theorem SL.app : ∀ {K K' : List SK} {xs ys : List Value}, SL g l K xs -> SL g l K' ys -> SL g l (K ++ K') (xs ++ ys)
 | [], _, xs, ys, h, h' => by have e : xs = [] := h; subst e; exact h'
 | _ :: K, _, xs, ys, ⟨f, zs, e, h1, h2⟩, h' => ⟨f, zs ++ ys, by rw [e]; rfl, h1, SL.app h2 h'⟩
theorem SL.one {k : SK} {f : Value} (ht : skOk g l k f) : SL g l [k] [f] := ⟨f, [], rfl, ht, rfl⟩
theorem SL.length : ∀ {K : List SK} {xs : List Value}, SL g l K xs -> xs.length = K.length
 | [], xs, h => by have e : xs = [] := h; subst e; rfl
 | _ :: K, xs, ⟨f, ys, e, _, h2⟩ => by rw [e]; simp only [List.length_cons]; have := SL.length h2; omega
theorem SL.ones : ∀ {K : List SK} {xs : List Value}, SL g l K xs -> ∀ u ∈ xs, u.oneCell' = true
 | [], xs, h => by have e : xs = [] := h; subst e; intro u hu; cases hu
 | _ :: K, xs, ⟨f, ys, e, h1, h2⟩ => by
   subst e
   intro u hu
   rcases List.mem_cons.1 hu with rfl | hu
   ·exact skOk_one h1
   ·exact SL.ones h2 u hu
end
def rfs (f : Nat -> Nat) : Nat -> Nat -> List SK
 | _, 0 => []
 | i, k + 1 => .rf (f i) :: rfs f (i + 1) k
def ucs (f : Nat -> Nat) : Nat -> Nat -> List SK
 | _, 0 => []
 | i, k + 1 => .ct (f i) :: ucs f (i + 1) k
theorem rfs_len (f : Nat -> Nat) : ∀ (k i : Nat), (rfs f i k).length = k
 | 0, _ => rfl
 | k + 1, i => by unfold rfs; rw [List.length_cons, rfs_len f k]
theorem zTi (f : Nat -> Nat) : ∀ (k i : Nat), (ucs f i k).length = k
 | 0, _ => rfl
 | k + 1, i => by unfold ucs; rw [List.length_cons, zTi f k]
theorem rfs_snoc (f : Nat -> Nat) : ∀ (k i : Nat), rfs f i (k + 1) = rfs f i k ++ [.rf (f (i + k))]
 | 0, i => rfl
 | k + 1, i => by
   rw [show rfs f i (k + 1 + 1) = .rf (f i) :: rfs f (i + 1) (k + 1) from rfl, rfs_snoc f k (i + 1), show rfs f i (k + 1) = .rf (f i) :: rfs f (i + 1) k from rfl, show i + 1 + k = i + (k + 1) by omega]; rfl
theorem ucs_snoc (f : Nat -> Nat) : ∀ (k i : Nat), ucs f i (k + 1) = ucs f i k ++ [.ct (f (i + k))]
 | 0, i => rfl
 | k + 1, i => by
   rw [show ucs f i (k + 1 + 1) = .ct (f i) :: ucs f (i + 1) (k + 1) from rfl, ucs_snoc f k (i + 1), show ucs f i (k + 1) = .ct (f i) :: ucs f (i + 1) k from rfl, show i + 1 + k = i + (k + 1) by omega]; rfl
section
variable {g : Nat} {lf : Value} {ti ve th wa nd n er an xd : Int} {p : DP} {a1 a2 : Option Addr} {z1 z2 : Nat}
set_option maxHeartbeats 8000000 in
theorem rlOpen_any (hp : p.Ok) (hv : zZc W .i64 (.slice a1 p.c.ps.length z1) p.c.ps) (hl : zZc W .i64 (.slice a2 p.c.ls.length z2) p.c.ls) (t0 : 0 <= ti) (t1 : ti <= 16) {q : Nat} (hq : lim p.c p.c.ps.length + 2 * ti = (q : Int)) (hq1 : q <= 1000000) (hi : q + 1 < ws.length) (hI : I64 (ws.getD (q + 1) 0)) (hov : ofV (ws.getD (q + 1) 0) = p.v) (hon : ofN (ws.getD (q + 1) 0) = p.n) (hln : lg.length < 1000000)
 (h : Own W NoF (blk g (rlO lf p.c (.slice a1 p.c.ps.length z1) (.slice a2 p.c.ls.length z2) ti ve th wa nd n er an xd) :: memA T m ws lg :: L) w) :
 Calls Tryz.prog 220 #[ptr g, ptr m] w fun e w' => ∃ x : Value × List Value × Bq, e = .returned x.1 /\ SL g x.2.2 (rfs p.nd 0 p.len ++ (ucs p.nd 0 p.len ++ [.fr])) x.2.1 /\ Own W NoF (srow x.1 (p.len + p.len + 1) x.2.1 :: blk g (rlO lf p.c (.slice a1 p.c.ps.length z1) (.slice a2 p.c.ls.length z2) ti ve th wa p.v p.n er an xd) :: bag x.2.2 :: memA T m ws (lg ++ [⟨1, ((q + 1 : Nat) : Int), ws.getD (q + 1) 0, 0, false⟩]) :: L) w' := by
 have hn12 := hp.rt.n1
 have HW := hid (zYv hp.rt.sm hn12 t0 t1 h)
 rw [hq] at HW
 have HL := fun w (h : Own W NoF (memA T m ws lg :: blk g (rlO lf p.c (.slice a1 p.c.ps.length z1) (.slice a2 p.c.ls.length z2) ti ve th wa nd n er an xd) :: L) w) => hid (zY9 (q + 1) hi hln h)
 have HF := fun w => hid (sOf_any (ws.getD (q + 1) 0) hI w)
 rw [hov, hon] at HF
 have HP := fun L w (h : Own W NoF L w) => hid (Path_any (w := w) p.c hp.rt.tr (hv.stp h.toBelow) (hl.stp h.toBelow) (p.v : Int) h)
 obtain ⟨hlen, hlen2⟩ := (DP.len_bd hp)
 have hnd := hid (fun i hi => DP.nd_int hp i hi)
 have hpl : (path p.c.ps p.v).length = p.len := rfl
 have HO := hid h
 have hw1 : IntKind.i64.wrap ((q : Int) + 1) = ((q + 1 : Nat) : Int) := IntWalk.i64_in _ (by omega)
 obtain ⟨c0, c1, c2, c3, c4, c5, c6, c7, c8, c9, c10, c11, c12, c13, c14, c15, c16, c17, c18, cf⟩ := zZm h
 unfold ptr at *
 unfold cfV at HP
 obtain ⟨i0, hi0, hz0, hz1, hz2⟩ := info_parts Tryz.info_step
 have Hi0 := hid hi0
 have Hz0 := hid hz0
 have Hz1 := hid hz1
 have Hz2 := hid hz2
 clear hi0 hz0 hz1 hz2 h hv hl t0 t1 hq hq1 hi hI hov hon hln hn12
 go_enter Tryz.func220, Tryz.ntmps220
 go_wp2_with fail
 refine HW.out.mono ?_
 rintro e w1 ⟨rfl, hB⟩
 have HO1 := hid (HO.out.swap.below hB)
 clear hB HO HW c0 c1 c2 c3 c4 c5 c6 c7 c8 c9 c10 c11 c12 c13 c14 c15 c16 c17 c18 cf
 go_wp2_with fail
 refine (HL _ HO1.out).out.mono ?_
 rintro e w2 ⟨rfl, hO⟩
 have HO2 := hid hO
 clear hO HO1 HL
 go_wp2_with fail
 refine (HF _).out.mono ?_
 rintro e w3 ⟨rfl, hB⟩
 have hO := (HO2.out.below hB).swap
 obtain ⟨c0, c1, c2, c3, c4, c5, c6, c7, c8, c9, c10, c11, c12, c13, c14, c15, c16, c17, c18, cf⟩ := zZm hO
 have H2 := hid (show Own W NoF (blk g (rlO lf p.c (.slice a1 p.c.ps.length z1) (.slice a2 p.c.ls.length z2) ti ve th wa p.v p.n er an xd) :: memA T m ws (lg ++ [⟨1, ((q + 1 : Nat) : Int), ws.getD (q + 1) 0, 0, false⟩]) :: L) _ from (hO.set 13 (.int .i64 p.v)).set 14 (.int .i64 p.n))
 clear hO hB HO2 HF
 go_wp2_with fail
 clear c0 c1 c2 c3 c4 c5 c6 c7 c8 c9 c10 c11 c12 c13 c14 c15 c16 c17 c18 cf
 generalize World.setCell (World.setCell _ _ _) _ _ = w4 at *
 have hO := H2.out.drew
 obtain ⟨c0, c1, c2, c3, c4, c5, c6, c7, c8, c9, c10, c11, c12, c13, c14, c15, c16, c17, c18, cf⟩ := zZm hO
 clear H2 cf
 go_region_held3 (fun w' => w'.cell? ⟨g, 1, none⟩ = some (.int .i64 p.c.th) /\ w'.cell? ⟨g, 2, none⟩ = some (.int .i64 p.c.st) /\ w'.cell? ⟨g, 3, none⟩ = some (.int .i64 p.c.ga) /\ w'.cell? ⟨g, 4, none⟩ = some (.int .i64 p.c.le) /\ w'.cell? ⟨g, 5, none⟩ = some (.int .i64 p.c.re) /\ w'.cell? ⟨g, 6, none⟩ = some (.int .i64 p.c.ti) /\ w'.cell? ⟨g, 7, none⟩ = some (.slice a1 p.c.ps.length z1) /\ w'.cell? ⟨g, 8, none⟩ = some (.slice a2 p.c.ls.length z2) /\ w'.cell? ⟨g, 13, none⟩ = some (.int .i64 p.v)) (go_keep) (first | (go_at_call 156; refine (HP _ _ (by with_reducible assumption)).out.mono ?_; rintro e w' ⟨vq, rfl, hO2⟩; obtain ⟨PA, cq, rfl⟩ := zZe hO2; obtain ⟨c0, c1, c2, c3, c4, c5, c6, c7, c8, c9, c10, c11, c12, c13, c14, c15, c16, c17, c18, cf⟩ := zZm hO2.swap; clear cf))
 all_goals
  have hO3 : Own W NoF (srow (.slice none 0 0) 0 [] :: bag [] :: row (.slice PA (path p.c.ps p.v).length cq) 3 1 (path p.c.ps p.v).length (intC (path p.c.ps p.v)) :: blk g (rlO lf p.c (.slice a1 p.c.ps.length z1) (.slice a2 p.c.ls.length z2) ti ve th wa p.v p.n er an xd) :: memA T m ws (lg ++ [⟨1, ((q + 1 : Nat) : Int), ws.getD (q + 1) 0, 0, false⟩]) :: L) w' := (hO2.bagNil).rowNil
  have HO3 := hid hO3
  clear hO hO2 hO3 HP c0 c1 c2 c3 c4 c5 c6 c7 c8 c9 c10 c11 c12 c13 c14 c15 c16 c17 c18
  go_wp2_with fail
  go_loopw [6, 38] (fun v6 v38 wr => ∃ (i : Nat) (l : Bq) (xs : List Value), i <= p.len /\ v38 = .int .i64 i /\ SL g l (rfs p.nd 0 i) xs /\ Own W NoF (srow v6 i xs :: bag l :: row (.slice PA (path p.c.ps p.v).length cq) 3 1 (path p.c.ps p.v).length (intC (path p.c.ps p.v)) :: blk g (rlO lf p.c (.slice a1 p.c.ps.length z1) (.slice a2 p.c.ls.length z2) ti ve th wa p.v p.n er an xd) :: memA T m ws (lg ++ [⟨1, ((q + 1 : Nat) : Int), ws.getD (q + 1) 0, 0, false⟩]) :: L) wr) (fun v6 v38 _ => p.len - (intOf v38).toNat)
  case atStart => exact ⟨0, _, _, Nat.zero_le _, rfl, rfl, HO3.out⟩
  case round =>
   obtain ⟨i, l, xs, hi, rfl, hTL, hO⟩ := hrel
   clear HO3
   obtain ⟨pv, cv, rfl⟩ := zZe hO
   have HTL := hid hTL
   obtain ⟨bq, oq, cq', eq_, hcq⟩ := (Own.intsAt hO.p2).at (by rw [hpl]; omega)
   injection eq_ with e1 e2 e3
   subst e1 e3
   by_cases hlt : i < p.len
   ·have j1 : (i : Int) < (p.len : Int) := by omega
    have x0 := hcq i hlt
    rw [show (path p.c.ps p.v).getD i 0 = (p.nd i : Int) by
     rw [<- hnd.out i hlt]
     have : i < (path p.c.ps p.v).length := hlt
     simp [List.getD, this]] at x0
    have HC := hid (rlRefund_any (g := g) (p.nd i : Int) hO)
    have b1 : i + 1 <= maxLen := by unfold maxLen; omega
    have b2 : (i + 1) * 8 <= 140737488355328 := by omega
    have i9 : (i : Int) <= 12 := by omega
    unfold clo ptr at HC
    clear hO hcq hTL
    go_wp2_with fail
    refine HC.out.mono ?_
    rintro e w5 ⟨k1, k2, k3, rfl, hO⟩
    have hR0 : Own W NoF (srow (.slice pv i cv) i xs :: bag ((k1, fnO (clo 246 #[ptr k2, ptr k3])) :: (k2, pmR g) :: (k3, inO (p.nd i)) :: l) :: row (.slice (some ⟨bq, oq, none⟩) (path p.c.ps p.v).length cq) 3 1 (path p.c.ps p.v).length (intC (path p.c.ps p.v)) :: blk g (rlO lf p.c (.slice a1 p.c.ps.length z1) (.slice a2 p.c.ls.length z2) ti ve th wa p.v p.n er an xd) :: memA T m ws (lg ++ [⟨1, ((q + 1 : Nat) : Int), ws.getD (q + 1) 0, 0, false⟩]) :: L) w5 := Own.bag3 hO.p3
    have HR0 := hid (hR0.alloc (one1 (clo 252 #[ptr k1])))
    have Hnw := hid (zYd w5 [clo 252 #[ptr k1]] 253 _ rfl)
    have hT2 := SL.app (HTL.out.sub (l' := ((k1, fnO (clo 246 #[ptr k2, ptr k3])) :: (k2, pmR g) :: (k3, inO (p.nd i)) :: l)) ((((Sub.refl _).cons _).cons _).cons _)) (SL.one (k := .rf (p.nd i)) (show skOk g ((k1, fnO (clo 246 #[ptr k2, ptr k3])) :: (k2, pmR g) :: (k3, inO (p.nd i)) :: l) (.rf (p.nd i)) (clo 252 #[ptr k1]) from ⟨k1, k2, k3, by simp, by simp, by simp, rfl⟩))
    rw [show rfs p.nd 0 i ++ [.rf (p.nd i)] = rfs p.nd 0 (i + 1) by rw [rfs_snoc, Nat.zero_add]] at hT2
    have HT3 := hid hT2
    clear hR0 hO HC hT2
    unfold one1 clo ptr at HR0
    unfold clo ptr at Hnw
    unfold srow at HR0
    go_wp2_with (first | (at_builtin; refine zZf rfl (.tmp 42) (.tmp 46) 160 rfl 253 i0 _ Tryz.underlying160 Hi0.out Hz0.out Hz1.out Hz2.out rfl (by decide) rfl HR0.out ⟨w5.heap.size, 0, none⟩ 1 1 _ rfl rfl Hnw.out (by simp [Value.oneCell']) b1 b2 ?_; intro v' w8 hR hgr hn; obtain ⟨p', cp', rfl⟩ := zZe hR; clear hgr hn HR0 Hnw))
    have HQ := hid hR
    clear hR
    go_roundw
    case rel => exact ⟨i + 1, _, _, by omega, by go_num, HT3.out, HQ.out⟩
    case measure => simp [intOf]; omega
   ·obtain rfl : i = p.len := by omega
    clear hlt hi
    have HOd := hid hO
    clear hO hcq hTL
    go_wp2_with fail
    go_loopw [6, 51] (fun v6 v51 wr => ∃ (i : Nat) (l : Bq) (xs : List Value), i <= p.len /\ v51 = .int .i64 i /\ SL g l (rfs p.nd 0 p.len ++ ucs p.nd 0 i) xs /\ Own W NoF (srow v6 (p.len + i) xs :: bag l :: row (.slice (some ⟨bq, oq, none⟩) (path p.c.ps p.v).length cq) 3 1 (path p.c.ps p.v).length (intC (path p.c.ps p.v)) :: blk g (rlO lf p.c (.slice a1 p.c.ps.length z1) (.slice a2 p.c.ls.length z2) ti ve th wa p.v p.n er an xd) :: memA T m ws (lg ++ [⟨1, ((q + 1 : Nat) : Int), ws.getD (q + 1) 0, 0, false⟩]) :: L) wr) (fun v6 v51 _ => p.len - (intOf v51).toNat)
    case atStart => exact ⟨0, _, _, Nat.zero_le _, rfl, by have := HTL.out; rw [show ucs p.nd 0 0 = [] from rfl, List.append_nil]; exact this, HOd.out⟩
    case round =>
     obtain ⟨i, l, xs, hi, rfl, hTL, hO⟩ := hrel
     clear HOd HTL
     obtain ⟨pv, cv, rfl⟩ := zZe hO
     have HTL := hid hTL
     obtain ⟨bq2, oq2, cq2, eq_, hcq⟩ := (Own.intsAt hO.p2).at (by rw [hpl]; omega)
     injection eq_ with e1 e2 e3
     injection e1 with e1
     injection e1 with e1 e4 _
     subst e1 e4 e3
     by_cases hlt : i < p.len
     ·have j1 : (i : Int) < (p.len : Int) := by omega
      have x0 := hcq i hlt
      rw [show (path p.c.ps p.v).getD i 0 = (p.nd i : Int) by
       rw [<- hnd.out i hlt]
       have : i < (path p.c.ps p.v).length := hlt
       simp [List.getD, this]] at x0
      have HC := hid (zR9 (g := g) (p.nd i : Int) hO)
      have b1 : p.len + i + 1 <= maxLen := by unfold maxLen; omega
      have b2 : (p.len + i + 1) * 8 <= 140737488355328 := by omega
      have i9 : (i : Int) <= 12 := by omega
      unfold clo ptr at HC
      clear hO hcq hTL
      go_wp2_with fail
      refine HC.out.mono ?_
      rintro e w5 ⟨k1, k2, k3, rfl, hO⟩
      have hR0 : Own W NoF (srow (.slice pv (p.len + i) cv) (p.len + i) xs :: bag ((k1, fnO (clo 247 #[ptr k2, ptr k3])) :: (k2, pmR g) :: (k3, inO (p.nd i)) :: l) :: row (.slice (some ⟨bq, oq, none⟩) (path p.c.ps p.v).length cq) 3 1 (path p.c.ps p.v).length (intC (path p.c.ps p.v)) :: blk g (rlO lf p.c (.slice a1 p.c.ps.length z1) (.slice a2 p.c.ls.length z2) ti ve th wa p.v p.n er an xd) :: memA T m ws (lg ++ [⟨1, ((q + 1 : Nat) : Int), ws.getD (q + 1) 0, 0, false⟩]) :: L) w5 := Own.bag3 hO.p3
      have HR0 := hid (hR0.alloc (one1 (clo 252 #[ptr k1])))
      have Hnw := hid (zYd w5 [clo 252 #[ptr k1]] 253 _ rfl)
      have hT2 := SL.app (HTL.out.sub (l' := ((k1, fnO (clo 247 #[ptr k2, ptr k3])) :: (k2, pmR g) :: (k3, inO (p.nd i)) :: l)) ((((Sub.refl _).cons _).cons _).cons _)) (SL.one (k := .ct (p.nd i)) (show skOk g ((k1, fnO (clo 247 #[ptr k2, ptr k3])) :: (k2, pmR g) :: (k3, inO (p.nd i)) :: l) (.ct (p.nd i)) (clo 252 #[ptr k1]) from ⟨k1, k2, k3, by simp, by simp, by simp, rfl⟩))
      rw [show rfs p.nd 0 p.len ++ ucs p.nd 0 i ++ [.ct (p.nd i)] = rfs p.nd 0 p.len ++ ucs p.nd 0 (i + 1) by rw [ucs_snoc, Nat.zero_add, List.append_assoc]] at hT2
      have HT3 := hid hT2
      clear hR0 hO HC hT2
      unfold one1 clo ptr at HR0
      unfold clo ptr at Hnw
      unfold srow at HR0
      go_wp2_with (first | (at_builtin; refine zZf rfl (.tmp 55) (.tmp 59) 160 rfl 253 i0 _ Tryz.underlying160 Hi0.out Hz0.out Hz1.out Hz2.out rfl (by decide) rfl HR0.out ⟨w5.heap.size, 0, none⟩ 1 1 _ rfl rfl Hnw.out (by simp [Value.oneCell']) b1 b2 ?_; intro v' w8 hR hgr hn; obtain ⟨p', cp', rfl⟩ := zZe hR; clear hgr hn HR0 Hnw))
      have HQ := hid hR
      clear hR
      go_roundw
      case rel => exact ⟨i + 1, _, _, by omega, by go_num, HT3.out, by have h := HQ.out; rw [show p.len + (i + 1) = p.len + i + 1 by omega]; exact h⟩
      case measure => simp [intOf]; omega
     ·obtain rfl : i = p.len := by omega
      clear hlt hi
      have b1 : p.len + p.len + 1 <= maxLen := by unfold maxLen; omega
      have b2 : (p.len + p.len + 1) * 8 <= 140737488355328 := by omega
      have HR0 := hid (hO.alloc (one1 (mv 239 g)))
      have hT2 := SL.app HTL.out (SL.one (k := .fr) (show skOk g l .fr (mv 239 g) from rfl))
      rw [List.append_assoc] at hT2
      have HT3 := hid hT2
      have Hnw := hid (zYd wr [mv 239 g] 253 _ rfl)
      clear hO hcq hT2
      unfold one1 mv ptr at HR0
      unfold mv ptr at Hnw
      unfold srow at HR0
      go_wp2_with (first | (at_builtin; refine zZf rfl (.tmp 62) (.tmp 65) 160 rfl 253 i0 _ Tryz.underlying160 Hi0.out Hz0.out Hz1.out Hz2.out rfl (by decide) rfl HR0.out ⟨wr.heap.size, 0, none⟩ 1 1 _ rfl rfl Hnw.out (by simp [Value.oneCell']) b1 b2 ?_; intro v' w8 hR hgr hn; obtain ⟨p', cp', rfl⟩ := zZe hR; clear hgr hn HR0 Hnw))
      have HQ := hid hR
      clear hR
      go_ret
      exact ⟨_, rfl, _, l, HT3.out, HQ.out.under fun _ _ h => (Own.under h fun _ _ h => h.drop).swap⟩
end
end
end Go.Proofs.YtdglnpfnjinbkaaGreat
