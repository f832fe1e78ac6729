/- Layer 9's laws: their words may be, their pokes leave them so; Play of both machines; what a play comes to; kind and want. -/
import Derived.Test.YtlkiadionpnijaaShiftMach
import Derived.Test.YtlkiadionpnijaaShiftLaw
import Derived.Test.YtlkiadionpnijaaShiftPlay
import Derived.Test.YtlkiadionpnijaaPoolPL
namespace Go.Proofs.Ytlkiadionpnijaa
open Go.ChangeShapes Go.WideShapes Go.ChangeAt Go.RowKit Go.Shelf
set_option linter.unusedVariables false
set_option linter.unusedSimpArgs false
set_option maxRecDepth 100000
variable {w0 w w' W : World} {F0 : Nat → Prop} {L : List Asn} {T : TypeId} {m : Nat} {ws : List Int} {lg : List Acc} {l : List Pk}
theorem shift_meth (g : Nat) : ∀ d w, (method (d + 2) 41 (.pointer (some ⟨g, 0, none⟩)) "Step").run Try.prog w = .ok (29, .pointer (some ⟨g, 0, none⟩)) w := fun d w => by kernel_rfl
theorem shift_enters : ∀ args w, (callFunc 29 args).run Try.prog w = .ok (.enter 29 args) w := enters_of Try.func29 (by kernel_rfl) rfl
/-- What the pokes must keep. -/
def PkQ (p : QP) (B : Int) (l : List Pk) : Prop := ∀ (t : Nat) (C : Int) ws, B ≤ C → QW p C ws → QW p C (pokesAt t l ws)
theorem pkQ_nil (p : QP) (B : Int) : PkQ p B [] := fun _ _ _ _ h => h
/-- What Play keeps, ahead of its end, and what it comes to. -/
structure QI (p : QP) (B : Int) (t : Nat) (s : QS) (ws : List Int) (lg : List Acc) : Prop where
  w : QW p (B + 1048576 * phiQ s) ws
  ok : QSOk p (B + 1048576 * phiQ s) s
  nine : s.at_ ≠ 9
  len : lg.length = t
structure QN (p : QP) (B : Int) (t : Nat) (s : QS) (ws : List Int) (lg : List Acc) : Prop where
  w : QW p (B + 2097152) ws
  ok : QSOk p (B + 2097152) s
  nine : s.at_ = 9
  len : lg.length = t
theorem QI.poke {p : QP} {B : Int} {t : Nat} {s : QS} (hpk : PkQ p B l) (h : QI p B t s ws lg) : QI p B t s (pokesAt t l ws) lg := by
  have hphi := phiQ_bd s
  exact ⟨hpk t _ ws (by omega) h.w, h.ok, h.nine, h.len⟩
theorem QI.ok9 {p : QP} {B : Int} {t : Nat} {s : QS} (h : QI p B t s ws lg) : QW p (B + 2097152) ws ∧ QSOk p (B + 2097152) s := by
  have hphi := phiQ_bd s
  exact ⟨h.w.wider (by omega), h.ok.wider (by omega)⟩
theorem QI.step {p : QP} {B : Int} {t : Nat} {s : QS} (hp : p.Ok) (hB0 : 0 ≤ B) (hB : B ≤ 100000000000000000) (h : QI p B t s ws lg) :
    ((stepQ p s ws lg).2.2.2 = false → QI p B (t + 1) (stepQ p s ws lg).1 (stepQ p s ws lg).2.1 (stepQ p s ws lg).2.2.1) ∧
    ((stepQ p s ws lg).2.2.2 = true → QN p B (t + 1) (stepQ p s ws lg).1 (stepQ p s ws lg).2.1 (stepQ p s ws lg).2.2.1) := by
  have hphi := phiQ_bd s
  have hC0 : 0 ≤ B + 1048576 * phiQ s := by omega
  have hC : B + 1048576 * phiQ s ≤ 1000000000000000000 := by omega
  have h1 := QW.step (lg := lg) hp hC0 hC h.w h.ok h.nine
  have h2 := QSOk.step (lg := lg) hp h.w h.ok
  obtain ⟨b1, b2, b3, b4, b5, b6, b7⟩ := stepQ_moves (lg := lg) hp hC h.w h.ok h.nine
  obtain ⟨f1, f2⟩ := phiQ_step (ws := ws) (lg := lg) h.ok h.nine
  have hphi2 := phiQ_bd (stepQ p s ws lg).1
  have hlen : (stepQ p s ws lg).2.2.1.length = t + 1 := by rw [b6, h.len]
  have hfl := stepQ_flag (ws := ws) (lg := lg) h.ok
  have hW : QW p (B + 1048576 * phiQ (stepQ p s ws lg).1) (stepQ p s ws lg).2.1 := by
    rcases f2 with he | hf
    · rw [he]; exact h.w.wider (by omega)
    · exact h1.wider (by omega)
  refine ⟨fun hf => ⟨hW, h2.wider (by omega), fun e => by rw [hf, e] at hfl; simp at hfl, hlen⟩, fun hf => ⟨hW.wider (by omega), h2.wider (by omega), by rw [hf] at hfl; exact eq_of_beq hfl.symm, hlen⟩⟩
theorem QI.start {p : QP} {B : Int} (hp : p.Ok) (hw : QW p B ws) (hB0 : 0 ≤ B) : QI p B 0 (s0Q p.kd) ws [] := by
  have h := QJ.start hp hw hB0 []
  exact ⟨h.w, h.ok, h.nine, h.len⟩
theorem Shift_play (what g m : Nat) (nd : Int) (li av : Nat) (n B : Int) (hB0 : 0 ≤ B) (hB : B ≤ 100000000000000000) (v : Value) (ws : List Int) (s : QS) (t0 : Nat) (lg : List Acc) (l : List Pk) (most : Int) (hl : l.length ≤ 1000000) (hv : PksAt w v l) (hm : most ≤ 2000) (ht0 : t0 ≤ 900000)
    (hp : (shP what li av n).Ok) (hpk : PkQ (shP what li av n) B l) (hj : QI (shP what li av n) B t0 s ws lg)
    (h : Own w0 F0 (shA g nd (shP what li av n) s :: memA 94 m ws lg :: L) w) :
    Calls Try.prog 16 #[.pointer (some ⟨m, 0, none⟩), .iface 41 (.pointer (some ⟨g, 0, none⟩)), v, .int .i64 most] w (PlayRet w0 F0 L (shM g nd (shP what li av n) (B + 2097152)) 94 m (playF (shM g nd (shP what li av n) (B + 2097152)) l most.toNat 0 s ws lg)) :=
  Play_t (shM g nd (shP what li av n) (B + 2097152)) (fun t s ws lg => ∃ t', t' ≤ t0 + t ∧ QI (shP what li av n) B t' s ws lg) 41 29 _ _ m v s ws lg l most hl hv (by omega) (shift_meth g) shift_enters (sh_steps what g m nd _ li av n (B + 2097152) (by omega))
    (fun t s ws lg ht ⟨t', h0, h⟩ => ⟨hp, h.ok9.1, h.ok9.2, by have := h.len; omega⟩)
    (fun t s ws lg ht ⟨t', h0, h⟩ => ⟨t', h0, ⟨hpk t _ ws (by have := phiQ_bd s; omega) h.w, h.ok, h.nine, h.len⟩⟩)
    (fun t s ws lg ht ⟨t', h0, h⟩ hf => ⟨t' + 1, by omega, (h.step hp hB0 hB).1 hf⟩)
    ⟨t0, by omega, hj⟩ h
def RetPlay9 {σ : Type} (W : World) (L : List Asn) (A : σ → Asn) (m : Nat) (R : Nat × Bool × σ × List Int × List Acc) (e : Ending) (w : World) : Prop :=
  e = .returned (.tuple #[.int .i64 R.1, .bool R.2.1]) ∧ Own W NoF (A R.2.2.1 :: memA 40 m R.2.2.2.1 R.2.2.2.2 :: L) w
theorem playF_congr9 {σ : Type} {M M' : Mach σ} (h : ∀ s ws lg, M.step s ws lg = M'.step s ws lg) (l : List Pk) : ∀ f t s ws lg, playF M l f t s ws lg = playF M' l f t s ws lg
  | 0, _, _, _, _ => rfl
  | f + 1, t, s, ws, lg => by rw [playF, playF, h]; simp only [playF_congr9 h l f]
theorem rShift_play (what g k m K : Nat) (c : Cf) (pp pl : Option Addr) (np cp nl cl : Nat) (nd : Int) (li av : Nat) (n B : Int) (hB0 : 0 ≤ B) (hB : B ≤ 100000000000000000) (hr : RsOk c nd li av) (v : Value) (ws : List Int) (l : List Pk) (hl : l.length ≤ 1000) (hK : K ≤ 1000)
    (hp : (shP what li av n).Ok) (hpk : PkQ (shP what li av n) B l) (hj : QI (shP what li av n) B 0 (s0Q (shP what li av n).kd) ws []) (hv0 : PksAt w v l) (hv : ∀ (X Y : Asn) w', Own W NoF (X :: Y :: L) w' → PksAt w' v l)
    (h : Own W NoF (rsA k c pp np cp pl nl cl nd (shP what li av n) (s0Q (shP what li av n).kd) :: memA 40 m ws [] :: L) w) :
    Calls Try.prog 18 #[.pointer (some ⟨m, 0, none⟩), .pointer (some ⟨k, 0, none⟩), v, .int .i64 K] w
      (RetPlay9 W L (rsA k c pp np cp pl nl cl nd (shP what li av n)) m (playF (shM g nd (shP what li av n) (B + 2097152)) l K 0 (s0Q (shP what li av n).kd) ws [])) := by
  have hc : playF (shM g nd (shP what li av n) (B + 2097152)) l K 0 (s0Q (shP what li av n).kd) ws [] = playF (rsM k c pp np cp pl nl cl nd (shP what li av n) (B + 2097152)) l K 0 (s0Q (shP what li av n).kd) ws [] := playF_congr9 (M := shM g nd (shP what li av n) (B + 2097152)) (M' := rsM k c pp np cp pl nl cl nd (shP what li av n) (B + 2097152)) (fun _ _ _ => rfl) l _ _ _ _ _
  rw [hc]
  exact r9Play_any (T := 40) (rsM k c pp np cp pl nl cl nd (shP what li av n) (B + 2097152)) (fun t s ws' lg => ws'.length = ws.length ∧ QI (shP what li av n) B t s ws' lg) k m ws.length v _ ws [] l K hl hK (by have := hj.w.most; omega) (r9_steps what k m c nd _ li av n _ (by omega) hr) (fun _ _ _ _ h => h.1)
    (fun t s ws lg ht h => ⟨hp, (h.2.poke hpk).ok9.1, (h.2.poke hpk).ok9.2, by have := h.2.len; omega⟩)
    (fun t s ws lg ht h hf => by
      have h2 := h.2.poke hpk
      refine ⟨?_, (h2.step hp hB0 hB).1 hf⟩
      have hC := phiQ_bd s
      have := (stepQ_moves (lg := lg) hp (by omega) h2.w h2.ok h2.nine).2.2.2.2.2.2
      show (stepQ (shP what li av n) s (pokesAt t l ws) lg).2.1.length = _
      rw [this, pokesAt_len]; exact h.1)
    ⟨rfl, hj⟩ hv0 hv h
theorem shift_plays {what g : Nat} {nd : Int} {li av : Nat} {n B : Int} (hB0 : 0 ≤ B) (hB : B ≤ 100000000000000000) (hp : (shP what li av n).Ok) (hpk : PkQ (shP what li av n) B l) (hj : QI (shP what li av n) B 0 (s0Q (shP what li av n).kd) ws []) (K : Nat) :
    ∃ k q s' ws' lg', playF (shM g nd (shP what li av n) (B + 2097152)) l K 0 (s0Q (shP what li av n).kd) ws [] = (k, q, s', ws', lg') ∧ k ≤ K ∧ lg'.length = k ∧ QW (shP what li av n) (B + 2097152) ws' := by
  obtain ⟨k, q, s', ws', lg', e, h1, h2, h3⟩ := playF_inv (M := shM g nd (shP what li av n) (B + 2097152)) (l := l) (QI (shP what li av n) B) (QN (shP what li av n) B) (fun t s ws lg h => h.poke hpk) (fun t s ws lg h => h.step hp hB0 hB) K 0 _ ws [] hj
  refine ⟨k, q, s', ws', lg', e, by omega, ?_, ?_⟩
  · cases q with
    | true => exact (h3 rfl).len
    | false => exact (h2 rfl).1.len
  · cases q with
    | true => exact (h3 rfl).w
    | false => exact (h2 rfl).1.ok9.1
/-- A law's words, for each kind of machine. -/
theorem swW_qw {x : Po} (hr : x.c.Rt) (hw : x.Wf) (what : Nat) (y : Int) (y0 : 0 ≤ y) (y1 : y ≤ 4294967295) (big : Bool) : QW (shP what x.b (x.b + 1) x.k) 1099511627776 (swW x y big) := by
  have h := poW_ok hr hw
  have hin := Po.b_in hr
  have hlen := h.len
  have hl := swW_len x y big
  have hb : (swW x y big).getD x.b 0 = if big = true then 1099511627776 - y % 100 else y := by unfold swW; rw [getD_set, if_pos ⟨rfl, by omega⟩]
  have ha : (swW x y big).getD (x.b + 1) 0 = (poW x (poR x)).getD (x.b + 1) 0 := by unfold swW; rw [getD_set, if_neg (by omega)]
  have hv : 0 ≤ (if big = true then 1099511627776 - y % 100 else y) ∧ (if big = true then 1099511627776 - y % 100 else y) ≤ 1099511627776 := by split <;> omega
  have a0 := h.a0
  have a1 := h.a1
  have wf : ∀ k, I64 ((swW x y big).getD k 0) := fun k => by
    unfold swW; rw [getD_set]; split
    · unfold I64; omega
    · exact h.wf k
  unfold shP
  split
  · exact ⟨by simp only; omega, by simp only; omega, by omega, wf, by simp only [hb]; omega, by simp only [hb]; omega, by simp only [ha]; omega, by simp only [ha]; omega⟩
  · split
    · exact ⟨by simp only; omega, by simp only; omega, by omega, wf, by simp only [hb]; omega, by simp only [hb]; omega, by simp only [ha]; omega, by simp only [ha]; omega⟩
    · exact ⟨by simp only; omega, by simp only; omega, by omega, wf, by simp only [ha]; omega, by simp only [ha]; omega, by simp only [hb]; omega, by simp only [hb]; omega⟩
theorem QW.set9 {p : QP} {C : Int} (h : QW p C ws) (k : Nat) (y : Int) (hy : I64 y) (h0 : -C ≤ y) (h1 : y ≤ C) : QW p C (ws.set k y) := by
  have get : ∀ j, (ws.set k y).getD j 0 = y ∨ (ws.set k y).getD j 0 = ws.getD j 0 := fun j => by
    rw [getD_set]; split
    · exact Or.inl rfl
    · exact Or.inr rfl
  refine ⟨by rw [List.length_set]; exact h.fi, by rw [List.length_set]; exact h.la, by rw [List.length_set]; exact h.most, fun j => ?_, ?_, ?_, ?_, ?_⟩
  · rcases get j with e | e
    · rw [e]; exact hy
    · rw [e]; exact h.wf j
  all_goals
    first
    | (rcases get p.fi with e | e <;> rw [e] <;> first | exact h0 | exact h1 | exact h.f0 | exact h.f1)
    | (rcases get p.la with e | e <;> rw [e] <;> first | exact h0 | exact h1 | exact h.l0 | exact h.l1)
theorem pkQ_poS {x : Po} {what : Nat} {B : Int} (hB : 4294967296 ≤ B) : PkQ (shP what x.b (x.b + 1) x.k) B (poS x) := by
  intro t C ws hC h
  unfold pokesAt poS
  rw [List.filter_map]
  generalize x.l.filter _ = l
  induction l generalizing ws with
  | nil => exact h
  | cons q l ih =>
    rw [List.map_cons, List.foldl_cons]
    refine ih _ ?_
    generalize hn : (if q.x < 0 then 0 else q.x) = n
    have e0 := Int.emod_nonneg n (show (4294967296 : Int) ≠ 0 by decide)
    have e1 := Int.emod_lt_of_pos n (show (0 : Int) < 4294967296 by decide)
    unfold pokeS
    rw [hn]
    split
    · unfold pokeW
      split
      · exact h.set9 _ _ (by unfold I64; simp only; omega) (by simp only; omega) (by simp only; omega)
      · exact h
    · unfold pokeW
      split
      · exact h.set9 _ _ (by unfold I64; simp only; omega) (by simp only; omega) (by simp only; omega)
      · exact h
theorem kind3 (u : Int) (u0 : 0 ≤ u) : ((u % 3 = 0 ∧ u.tmod 3 = 0) ∨ (u % 3 = 1 ∧ u.tmod 3 = 1) ∨ (u % 3 = 2 ∧ u.tmod 3 = 2)) := by
  have := Int.tmod_eq_emod_of_nonneg (b := 3) u0
  omega
variable {pp pl : Option Addr} {np cp nl cl : Nat}
set_option maxHeartbeats 2000000 in
theorem kind_any (c : Cf) (hs : Sm c) (v n : Int) (v0 : 0 ≤ v) (v1 : v ≤ 12) (li av : Nat) (p0 : lim c v = (li : Int)) (p1 : lim c v + 1 = (av : Int)) (u : Int) (u0 : 0 ≤ u) (u1 : u ≤ 255) (h : Own w0 F0 L w) :
    Calls Try.prog 14 #[cfV c (.slice pp np cp) (.slice pl nl cl), .int .u8 u, .int .i64 v, .int .i64 n] w fun e w' =>
      ∃ g, e = .returned (.pointer (some ⟨g, 0, none⟩)) ∧ Own w0 F0 (shA g v (shP (u % 3).toNat li av n) (s0Q (shP (u % 3).toNat li av n).kd) :: L) w' := by
  have h1 := h.new (cfO c (.slice pp np cp) (.slice pl nl cl))
  obtain ⟨d0, d1, d2, d3, d4, d5, d6, d7⟩ := conf_cells h1
  rcases kind3 u u0 with ⟨e1, e2⟩ | ⟨e1, e2⟩ | ⟨e1, e2⟩
  · have HR := Lib.hid (shRefund_any (pp := pp) (np := np) (cp := cp) (pl := pl) (nl := nl) (cl := cl) c hs v n v0 v1 li av p0 p1 h1)
    have E1 := Lib.hid (show (u % 3).toNat = 0 by omega)
    rw [E1.out]
    have k0 : (u % 3 == 0) = true := by rw [e1]; rfl
    have k1 : (u % 3 == 1) = false := by rw [e1]; rfl
    clear h h1
    go_enter Try.func14, Try.ntmps14
    go_wp2_with fail
    refine HR.out.mono ?_
    rintro e w1 ⟨g, rfl, hO⟩
    have HF := Lib.hid (hO.under fun _ _ h => h.drop)
    clear hO HR d0 d1 d2 d3 d4 d5 d6 d7
    go_wp2_with fail
    go_ret
    exact ⟨g, rfl, HF.out⟩
  · have HR := Lib.hid (shRaise_any (pp := pp) (np := np) (cp := cp) (pl := pl) (nl := nl) (cl := cl) c hs v n v0 v1 li av p0 p1 h1)
    have E1 := Lib.hid (show (u % 3).toNat = 1 by omega)
    rw [E1.out]
    have k0 : (u % 3 == 0) = false := by rw [e1]; rfl
    have k1 : (u % 3 == 1) = true := by rw [e1]; rfl
    clear h h1
    go_enter Try.func14, Try.ntmps14
    go_wp2_with fail
    refine HR.out.mono ?_
    rintro e w1 ⟨g, rfl, hO⟩
    have HF := Lib.hid (hO.under fun _ _ h => h.drop)
    clear hO HR d0 d1 d2 d3 d4 d5 d6 d7
    go_wp2_with fail
    go_ret
    exact ⟨g, rfl, HF.out⟩
  · have HR := Lib.hid (shLower_any (pp := pp) (np := np) (cp := cp) (pl := pl) (nl := nl) (cl := cl) c hs v n v0 v1 li av p0 p1 h1)
    have E1 := Lib.hid (show (u % 3).toNat = 2 by omega)
    rw [E1.out]
    have k0 : (u % 3 == 0) = false := by rw [e1]; rfl
    have k1 : (u % 3 == 1) = false := by rw [e1]; rfl
    clear h h1
    go_enter Try.func14, Try.ntmps14
    go_wp2_with fail
    refine HR.out.mono ?_
    rintro e w1 ⟨g, rfl, hO⟩
    have HF := Lib.hid (hO.under fun _ _ h => h.drop)
    clear hO HR d0 d1 d2 d3 d4 d5 d6 d7
    go_wp2_with fail
    go_ret
    exact ⟨g, rfl, HF.out⟩
set_option maxHeartbeats 2000000 in
theorem want_any (c : Cf) {vp vl : Value} (hs : c.Rt) (hp : ∀ w', Own w0 F0 L w' → IntsAt w' .i64 vp c.ps) (hl : ∀ w', Own w0 F0 L w' → IntsAt w' .i64 vl c.ls) (v n : Int) (li av : Nat) (u : Int) (u0 : 0 ≤ u) (u1 : u ≤ 255) (h : Own w0 F0 L w) :
    Calls Try.prog 15 #[cfV c vp vl, .int .u8 u, .int .i64 v, .int .i64 n] w fun e w' =>
      ∃ k a1 c1 a2 c2, e = .returned (.pointer (some ⟨k, 0, none⟩)) ∧ Own w0 F0 (rsA k c a1 c.ps.length c1 a2 c.ls.length c2 v (shP (u % 3).toNat li av n) (s0Q (shP (u % 3).toNat li av n).kd) :: L) w' := by
  have h1 := h.new (cfO c vp vl)
  obtain ⟨d0, d1, d2, d3, d4, d5, d6, d7⟩ := conf_cells h1
  rcases kind3 u u0 with ⟨e1, e2⟩ | ⟨e1, e2⟩ | ⟨e1, e2⟩
  · have HR := Lib.hid (r9Refund_any c (vp := vp) (vl := vl) hs (fun w' h => hp w' h.drop) (fun w' h => hl w' h.drop) v n li av h1)
    have E1 := Lib.hid (show (u % 3).toNat = 0 by omega)
    rw [E1.out]
    have k0 : (u % 3 == 0) = true := by rw [e1]; rfl
    have k1 : (u % 3 == 1) = false := by rw [e1]; rfl
    clear h h1 hp hl
    go_enter Try.func15, Try.ntmps15
    go_wp2_with fail
    refine HR.out.mono ?_
    rintro e w1 ⟨g, a1, c1, a2, c2, rfl, hO⟩
    have HF := Lib.hid (hO.under fun _ _ h => h.drop)
    clear hO HR d0 d1 d2 d3 d4 d5 d6 d7
    go_wp2_with fail
    go_ret
    exact ⟨g, a1, c1, a2, c2, rfl, HF.out⟩
  · have HR := Lib.hid (r9Raise_any c (vp := vp) (vl := vl) hs (fun w' h => hp w' h.drop) (fun w' h => hl w' h.drop) v n li av h1)
    have E1 := Lib.hid (show (u % 3).toNat = 1 by omega)
    rw [E1.out]
    have k0 : (u % 3 == 0) = false := by rw [e1]; rfl
    have k1 : (u % 3 == 1) = true := by rw [e1]; rfl
    clear h h1 hp hl
    go_enter Try.func15, Try.ntmps15
    go_wp2_with fail
    refine HR.out.mono ?_
    rintro e w1 ⟨g, a1, c1, a2, c2, rfl, hO⟩
    have HF := Lib.hid (hO.under fun _ _ h => h.drop)
    clear hO HR d0 d1 d2 d3 d4 d5 d6 d7
    go_wp2_with fail
    go_ret
    exact ⟨g, a1, c1, a2, c2, rfl, HF.out⟩
  · have HR := Lib.hid (r9Lower_any c (vp := vp) (vl := vl) hs (fun w' h => hp w' h.drop) (fun w' h => hl w' h.drop) v n li av h1)
    have E1 := Lib.hid (show (u % 3).toNat = 2 by omega)
    rw [E1.out]
    have k0 : (u % 3 == 0) = false := by rw [e1]; rfl
    have k1 : (u % 3 == 1) = false := by rw [e1]; rfl
    clear h h1 hp hl
    go_enter Try.func15, Try.ntmps15
    go_wp2_with fail
    refine HR.out.mono ?_
    rintro e w1 ⟨g, a1, c1, a2, c2, rfl, hO⟩
    have HF := Lib.hid (hO.under fun _ _ h => h.drop)
    clear hO HR d0 d1 d2 d3 d4 d5 d6 d7
    go_wp2_with fail
    go_ret
    exact ⟨g, a1, c1, a2, c2, rfl, HF.out⟩
end Go.Proofs.Ytlkiadionpnijaa
