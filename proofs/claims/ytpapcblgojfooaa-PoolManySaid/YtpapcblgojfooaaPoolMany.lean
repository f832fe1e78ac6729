/- PoolMany. Written by tools/gen_pool*.py. -/
import Derived.Test.YtpapcblgojfooaaPoolCrewH
import Derived.BigQuiet
import Derived.Deep.QuietTactic
namespace Go.Proofs.Ytpapcblgojfooaa
open Go.ChangeShapes Go.WideShapes Go.ChangeAt Go.RowKit Go.Shelf
set_option linter.unusedVariables false
set_option linter.unusedSimpArgs false
set_option maxRecDepth 100000
theorem ans8M (e n : Int) (x : Bool) (q : Int) (w : World) : (Instr.field 51 (.agg #[.int .i64 e, .int .i64 n, .bool x, .int .i64 q]) 0).run Try.prog w = .ok (.int .i64 e) w := by kernel_rfl
variable {ws : List Int} {lg : List Acc} {T : Int} {NP i D : Nat} {ov : Nat → Bool} {σ : Nat → PS} {x : Po} {zs : List Int}
theorem pm_idle (hD : zs.length = D) (d1 : 1 ≤ D) (d6 : D ≤ 6) (h : PM (x.pool zs) T NP i ov σ ws lg) (kk : Nat) (hi : NP ≤ i → kk = i % D) (ho : ov kk = true) : PM (x.pool zs) T NP (i + 1) ov σ ws lg := by
  subst hD; exact h.idle ⟨d1, d6⟩ kk hi ho
theorem pm_move (hr : x.c.Rt) (hD : zs.length = D) (d1 : 1 ≤ D) (d6 : D ≤ 6) (hT : T ≤ 1000000000000000000) (h : PM (x.pool zs) T NP i ov σ ws lg) (kk : Nat) (hkk : kk < D) (hi : NP ≤ i → kk = i % D) (ho : ov kk = false) :
    PM (x.pool zs) T NP (i + 1) (fun j => if j = kk then (stepP ((x.pool zs).p kk) (σ kk) ws lg).2.2.2 else ov j) (updP σ kk (stepP ((x.pool zs).p kk) (σ kk) ws lg).1) (stepP ((x.pool zs).p kk) (σ kk) ws lg).2.1 (stepP ((x.pool zs).p kk) (σ kk) ws lg).2.2.1 := by
  subst hD; exact h.move (Po.pool_ok hr) ⟨d1, d6⟩ hT kk hkk hi ho
theorem pm_pre (hr : x.c.Rt) (hD : zs.length = D) (h : PM (x.pool zs) T NP i ov σ ws lg) (kk : Nat) (hkk : kk < D) : ((x.pool zs).p kk).Ok ∧ PW ((x.pool zs).p kk) T ws ∧ PSOk ((x.pool zs).p kk) T (σ kk) ∧ lg.length ≤ i := by
  subst hD
  obtain ⟨⟨c, h1, h2⟩, h3, h4⟩ := h
  exact ⟨(Po.pool_ok hr).ok kk hkk, h1.pw (Po.pool_ok hr) kk hkk, h1.ok kk hkk, h4⟩
theorem pm_end {M : Nat} (hr : x.c.Rt) (hD : zs.length = D) (d1 : 1 ≤ D) (d6 : D ≤ 6) (hT : T ≤ 1125899906842624) (h : PM (x.pool zs) T NP (NP + M) ov σ ws lg) (hM : 40 * D * D = M) :
    (∀ k, k < D → ov k = true) ∧ PZ (x.pool zs) T σ ws ∧ (x.b + 1 + x.S < ws.length ∧ ws.length ≤ 10000 ∧ ∀ k, k ≤ x.S → 0 ≤ ws.getD (x.b + 1 + k) 0 ∧ ws.getD (x.b + 1 + k) 0 ≤ 1125899906842624) := by
  subst hD hM
  refine ⟨h.done ⟨d1, d6⟩, h.end_ ⟨d1, d6⟩, ?_⟩
  obtain ⟨⟨c, h1, h2⟩, h3, h4⟩ := h
  exact h1.bd hr hT
theorem getD_bd {l : List Int} (a b : Int) (a0 : a ≤ 0) (b0 : 0 ≤ b) (h : ∀ n ∈ l, a ≤ n ∧ n ≤ b) (j : Nat) : a ≤ l.getD j 0 ∧ l.getD j 0 ≤ b := by
  by_cases hj : j < l.length
  · have e : l.getD j 0 = l[j] := by simp [List.getD, hj]
    rw [e]; exact h _ (List.getElem_mem hj)
  · have e : l.getD j 0 = 0 := by simp [List.getD, List.getElem?_eq_none (show l.length ≤ j by omega)]
    rw [e]; exact ⟨a0, b0⟩
def lfN (x : Po) (zs : List Int) (T : Int) (σ : Nat → PS) (i : Nat) : Int := T - sK (fun k => bal ((x.pool zs).p k) (σ k)) i
theorem lfN_succ (h : PZ (x.pool zs) T σ ws) (i : Nat) (hi : i < zs.length) : lfN x zs T σ (i + 1) = lfN x zs T σ i - if (σ i).r = true then 0 else zs.getD i 0 % 50 + 1 := by
  unfold lfN
  rw [sK, h.bl i hi]
  show _ = _ - if (σ i).r = true then 0 else (x.pool zs).nn i
  omega
theorem lfN_bd (h : PZ (x.pool zs) T σ ws) (t0 : 0 ≤ T) (t1 : T ≤ 4303355903) (i : Nat) (hi : i ≤ zs.length) (h6 : zs.length ≤ 6) : -300 ≤ lfN x zs T σ i ∧ lfN x zs T σ i ≤ 4303355903 := by
  have := h.bal_bd i hi
  unfold lfN; omega
theorem ref_lt (h : PZ (x.pool zs) T σ ws) (k : Nat) (hk : k < zs.length) (hr : (σ k).r = true) : T < x.S * x.c.le + manyN x zs zs.length := h.ref k hk hr
def sLN (x : Po) (j : Nat) : Int := j * x.c.le
theorem sLN_succ (x : Po) (j : Nat) : sLN x (j + 1) = sLN x j + x.c.le := by unfold sLN; rw [Int.natCast_add, Int.add_mul]; simp
theorem sLN_bd (hr : x.c.Rt) (j : Nat) (hj : j ≤ 8) : 0 ≤ sLN x j ∧ sLN x j ≤ 8388608 := by
  have hl := hr.le
  unfold Bd at hl
  unfold sLN
  have : j = 0 ∨ j = 1 ∨ j = 2 ∨ j = 3 ∨ j = 4 ∨ j = 5 ∨ j = 6 ∨ j = 7 ∨ j = 8 := by omega
  rcases this with rfl | rfl | rfl | rfl | rfl | rfl | rfl | rfl | rfl <;> simp <;> omega
theorem em_k (u : Int) (D : Nat) (h0 : 0 ≤ u) (h1 : 1 ≤ D) : ∃ kk : Nat, u.tmod (D : Int) = (kk : Int) ∧ u % (D : Int) = (kk : Int) ∧ kk < D := by
  refine ⟨(u % (D : Int)).toNat, ?_, ?_, ?_⟩
  · rw [Int.tmod_eq_emod_of_nonneg h0, Int.toNat_of_nonneg (Int.emod_nonneg _ (by omega))]
  · rw [Int.toNat_of_nonneg (Int.emod_nonneg _ (by omega))]
  · have := Int.emod_lt_of_pos u (show (0 : Int) < (D : Int) by omega)
    have := Int.emod_nonneg u (show ((D : Int)) ≠ 0 by omega)
    omega
theorem PoolMany_bad (W : World) (x : Po) {vp vl ve vk : Value} (H : PoAt W x vp vl ve vk) (hg : ¬ GoodP x) (pz : Option Addr) (D cz : Nat) (pu : Option Addr) (NP cu : Nat) :
    Calls Try.prog 7 #[poV x vp vl ve vk, .slice pz D cz, .slice pu NP cu] W fun e w' => e = .returned (.bool true) ∧ Below W.heap.size W w' := by
  obtain ⟨pp, cp, rfl⟩ := H.p.slice
  obtain ⟨pl, cl, rfl⟩ := H.l.slice
  obtain ⟨pk, ck, rfl⟩ := PksAt.slice H.k
  have h0 := (Own.start W).new (poO x (.slice pp x.c.ps.length cp) (.slice pl x.c.ls.length cl) ve (.slice pk x.l.length ck))
  have Hh := Lib.hid (head8_any h0)
  have HG := fun w' (hb : Stp W w') => Lib.hid (pGood_no (H.stp hb) hg)
  unfold poV at HG ⊢
  clear h0 H hg
  go_enter Try.func7, Try.ntmps7
  go_wp2_with fail
  refine Hh.out.mono ?_
  rintro e w1 ⟨rfl, hO⟩
  obtain ⟨d0, d1, d2, d3, d4, d5, d6, d7, d8, d9, d10, d11, d12, d13⟩ := poCells hO
  go_wp2_with fail
  refine (HG _ hO.toBelow).out.mono ?_
  rintro e w2 ⟨rfl, hB⟩
  have hO := hO.below hB
  clear hB HG Hh d0 d1 d2 d3 d4 d5 d6 d7 d8 d9 d10 d11 d12 d13
  have HB := Lib.hid hO.toBelow
  clear hO
  go_wp2_with fail
  go_ret
  exact ⟨rfl, HB.out⟩
theorem PoolMany_l6 (W : World) (x : Po) {vp vl ve vk : Value} (H : PoAt W x vp vl ve vk) (hg : GoodP x)  (pz : Option Addr) (D cz : Nat) (pu : Option Addr) (NP cu : Nat) (h6 : 6 < D) (hD : D ≤ 9223372036854775807) :
    Calls Try.prog 7 #[poV x vp vl ve vk, .slice pz D cz, .slice pu NP cu] W fun e w' => e = .returned (.bool true) ∧ Below W.heap.size W w' := by
  obtain ⟨pp, cp, rfl⟩ := H.p.slice
  obtain ⟨pl, cl, rfl⟩ := H.l.slice
  obtain ⟨pk, ck, rfl⟩ := PksAt.slice H.k
  have h0 := (Own.start W).new (poO x (.slice pp x.c.ps.length cp) (.slice pl x.c.ls.length cl) ve (.slice pk x.l.length ck))
  have Hh := Lib.hid (head8_any h0)
  have HG := fun w' (hb : Stp W w') => Lib.hid (pGood_yes (H.stp hb) hg)
  have hd1 : decide (6 < (D : Int)) = true := by simp; omega
  unfold poV at HG ⊢
  clear h0 H hg
  go_enter Try.func7, Try.ntmps7
  go_wp2_with fail
  refine Hh.out.mono ?_
  rintro e w1 ⟨rfl, hO⟩
  obtain ⟨d0, d1, d2, d3, d4, d5, d6, d7, d8, d9, d10, d11, d12, d13⟩ := poCells hO
  go_wp2_with fail
  refine (HG _ hO.toBelow).out.mono ?_
  rintro e w2 ⟨rfl, hB⟩
  have hO := hO.below hB
  clear hB HG Hh d0 d1 d2 d3 d4 d5 d6 d7 d8 d9 d10 d11 d12 d13
  have HB := Lib.hid hO.toBelow
  clear hO
  go_wp2_with fail
  go_ret
  exact ⟨rfl, HB.out⟩
theorem PoolMany_n200 (W : World) (x : Po) {vp vl ve vk : Value} (H : PoAt W x vp vl ve vk) (hg : GoodP x)  (pz : Option Addr) (D cz : Nat) (pu : Option Addr) (NP cu : Nat) (h6 : D ≤ 6) (h2 : 200 < NP) (hN : NP ≤ 9223372036854775807) :
    Calls Try.prog 7 #[poV x vp vl ve vk, .slice pz D cz, .slice pu NP cu] W fun e w' => e = .returned (.bool true) ∧ Below W.heap.size W w' := by
  obtain ⟨pp, cp, rfl⟩ := H.p.slice
  obtain ⟨pl, cl, rfl⟩ := H.l.slice
  obtain ⟨pk, ck, rfl⟩ := PksAt.slice H.k
  have h0 := (Own.start W).new (poO x (.slice pp x.c.ps.length cp) (.slice pl x.c.ls.length cl) ve (.slice pk x.l.length ck))
  have Hh := Lib.hid (head8_any h0)
  have HG := fun w' (hb : Stp W w') => Lib.hid (pGood_yes (H.stp hb) hg)
  have hd1 : decide (6 < (D : Int)) = false := by simp; omega
  have hd2 : decide (200 < (NP : Int)) = true := by simp; omega
  unfold poV at HG ⊢
  clear h0 H hg
  go_enter Try.func7, Try.ntmps7
  go_wp2_with fail
  refine Hh.out.mono ?_
  rintro e w1 ⟨rfl, hO⟩
  obtain ⟨d0, d1, d2, d3, d4, d5, d6, d7, d8, d9, d10, d11, d12, d13⟩ := poCells hO
  go_wp2_with fail
  refine (HG _ hO.toBelow).out.mono ?_
  rintro e w2 ⟨rfl, hB⟩
  have hO := hO.below hB
  clear hB HG Hh d0 d1 d2 d3 d4 d5 d6 d7 d8 d9 d10 d11 d12 d13
  have HB := Lib.hid hO.toBelow
  clear hO
  go_wp2_with fail
  go_ret
  exact ⟨rfl, HB.out⟩
theorem PoolMany_l0 (W : World) (x : Po) {vp vl ve vk : Value} (H : PoAt W x vp vl ve vk) (hg : GoodP x)  (pz : Option Addr) (D cz : Nat) (pu : Option Addr) (NP cu : Nat) (h2 : NP ≤ 200) (hz : D = 0) :
    Calls Try.prog 7 #[poV x vp vl ve vk, .slice pz D cz, .slice pu NP cu] W fun e w' => e = .returned (.bool true) ∧ Below W.heap.size W w' := by
  obtain ⟨pp, cp, rfl⟩ := H.p.slice
  obtain ⟨pl, cl, rfl⟩ := H.l.slice
  obtain ⟨pk, ck, rfl⟩ := PksAt.slice H.k
  have h0 := (Own.start W).new (poO x (.slice pp x.c.ps.length cp) (.slice pl x.c.ls.length cl) ve (.slice pk x.l.length ck))
  have Hh := Lib.hid (head8_any h0)
  have HG := fun w' (hb : Stp W w') => Lib.hid (pGood_yes (H.stp hb) hg)
  subst hz
  have hd2 : decide (200 < (NP : Int)) = false := by simp; omega
  unfold poV at HG ⊢
  clear h0 H hg
  go_enter Try.func7, Try.ntmps7
  go_wp2_with fail
  refine Hh.out.mono ?_
  rintro e w1 ⟨rfl, hO⟩
  obtain ⟨d0, d1, d2, d3, d4, d5, d6, d7, d8, d9, d10, d11, d12, d13⟩ := poCells hO
  go_wp2_with fail
  refine (HG _ hO.toBelow).out.mono ?_
  rintro e w2 ⟨rfl, hB⟩
  have hO := hO.below hB
  clear hB HG Hh d0 d1 d2 d3 d4 d5 d6 d7 d8 d9 d10 d11 d12 d13
  have HB := Lib.hid hO.toBelow
  clear hO
  go_wp2_with fail
  go_ret
  exact ⟨rfl, HB.out⟩
set_option maxHeartbeats 20000000 in
theorem PoolMany_main (W : World) (x : Po) {vp vl ve vk : Value} (H : PoAt W x vp vl ve vk) (hg : GoodP x) (zs : List Int) (D : Nat) (bz oz cz : Nat) (us : List Int) (NP : Nat) (pu : Option Addr) (cu : Nat) (HD : Hid (zs.length = D)) (D1 : 1 ≤ D) (D6 : D ≤ 6) (np : NP ≤ 200) (HZc : Hid (∀ j, j < D → W.cell? ⟨bz, oz + j, none⟩ = some (.int .u16 (zs.getD j 0)))) (HZb : Hid (∀ j, 0 ≤ zs.getD j 0 ∧ zs.getD j 0 ≤ 65535)) (HUc : Hid (0 < NP → ∃ bp op cp, (Value.slice pu NP cu = .slice (some ⟨bp, op, none⟩) NP cp) ∧ ∀ j, j < NP → W.cell? ⟨bp, op + j, none⟩ = some (.int .u8 (us.getD j 0)))) (HUb : Hid (∀ j, 0 ≤ us.getD j 0 ∧ us.getD j 0 ≤ 255)) :
    Calls Try.prog 7 #[poV x vp vl ve vk, .slice (some ⟨bz, oz, none⟩) D cz, .slice pu NP cu] W fun e w' => e = .returned (.bool true) ∧ Below W.heap.size W w' := by
  obtain ⟨pp, cp, rfl⟩ := H.p.slice
  obtain ⟨pl, cl, rfl⟩ := H.l.slice
  obtain ⟨pk, ck, rfl⟩ := PksAt.slice H.k
  have h0 := (Own.start W).new (poO x (.slice pp x.c.ps.length cp) (.slice pl x.c.ls.length cl) ve (.slice pk x.l.length ck))
  have Hh := Lib.hid (head8_any h0)
  have hr := hg.rt
  have HG := fun w' (hb : Stp W w') => Lib.hid (pGood_yes (H.stp hb) hg)
  have HOf := fun w' (hb : Stp W w') => Lib.hid (pOf_any (H.stp hb) hr)
  have HWd := fun w L (h : Own W NoF L w) => Lib.hid (pWords_any H hg h)
  have HPk := fun w L (h : Own W NoF L w) => Lib.hid (pPokes_any H hg h)
  have hOk := poW_ok hr H.wf
  have hin := Po.b_in hr
  have hvb := Po.v_bd hr
  have hsb := Po.s_bd hr
  have hkb := Po.k_bd (x := x)
  have HSe := Lib.hid (Po.S_eq hr)
  have hn1 := hr.n1
  have hbe := Po.b_eq hr
  have hst := hr.sm
  have hst8 := hr.sm.2
  have Hr := Lib.hid hr
  have hp0 : (x.p.av : Int) = lim x.c x.v + 1 := by rw [hbe]; simp only [Po.p]; omega
  have hp1 : (x.p.le : Int) = lim x.c x.v + 2 + x.s := by rw [hbe]; simp only [Po.p]; omega
  have HNw := fun w L (h : Own W NoF L w) => Lib.hid (poolNew_any (w0 := W) (F0 := NoF) (L := L) (w := w) (pp := pp) (np := x.c.ps.length) (cp := cp) (pl := pl) (nl := x.c.ls.length) (cl := cl) x.c hst x.v x.k x.s hvb.1 (by omega) hsb.1 (by omega) x.p hp0 hp1 rfl rfl h)
  clear hbe hp0 hp1
  have hd1 : decide (6 < (D : Int)) = false := by simp; omega
  have hd2 : decide (200 < (NP : Int)) = false := by simp; omega
  have hd3 : ((D : Int) == 0) = false := by rw [beq_eq_false_iff_ne]; omega
  have hd4 : decide ((D : Int) = 0) = false := by simp; omega
  have hd5 : ¬ D = 0 := by omega
  have hbe1 := Po.b_eq hr
  unfold poV at HG HOf HWd HPk ⊢
  clear h0 H hg hr
  go_enter Try.func7, Try.ntmps7
  go_wp2_with fail
  refine Hh.out.mono ?_
  rintro e w1 ⟨rfl, hO⟩
  obtain ⟨d0, d1, d2, d3, d4, d5, d6, d7, d8, d9, d10, d11, d12, d13⟩ := poCells hO
  go_wp2_with fail
  refine (HG _ hO.toBelow).out.mono ?_
  rintro e w2 ⟨rfl, hB⟩
  have hO := hO.below hB
  clear hB HG Hh d0 d1 d2 d3 d4 d5 d6 d7 d8 d9 d10 d11 d12 d13
  obtain ⟨d0, d1, d2, d3, d4, d5, d6, d7, d8, d9, d10, d11, d12, d13⟩ := poCells hO
  go_wp2_with fail
  refine (HOf _ hO.toBelow).out.mono ?_
  rintro e w3 ⟨rfl, hB⟩
  have hO := hO.below hB
  clear hB HOf d0 d1 d2 d3 d4 d5 d6 d7 d8 d9 d10 d11 d12 d13
  obtain ⟨d0, d1, d2, d3, d4, d5, d6, d7, d8, d9, d10, d11, d12, d13⟩ := poCells hO
  go_wp2_with fail
  refine (HWd _ _ hO).out.mono ?_
  rintro e w4 ⟨vw, rfl, hO⟩
  clear HWd d0 d1 d2 d3 d4 d5 d6 d7 d8 d9 d10 d11 d12 d13
  obtain ⟨ws, hws⟩ : ∃ ws, ws = poW x (poR x) := ⟨_, rfl⟩
  rw [← hws] at hO hOk
  have hlen := hOk.len
  rw [← hlen] at hO
  clear hws
  have HLd := Lib.hid (pLaid_any (by omega) (by omega) hO)
  clear hO
  go_wp2_with fail
  refine HLd.out.mono ?_
  rintro e w5 ⟨m, rfl, hO⟩
  clear HLd
  have hO : Own W NoF (memA 94 m ws [] :: [blk W.heap.size (poO x (.slice pp x.c.ps.length cp) (.slice pl x.c.ls.length cl) ve (.slice pk x.l.length ck))]) w5 := hO.under fun _ _ h => h.drop
  have HLw := Lib.hid (hOk.left Hr.out (by decide))
  have hin2 := Po.b_in Hr.out
  have HS1 := Lib.hid (Po.S_eq Hr.out).1
  have hS8 := (Po.S_eq Hr.out).2
  have hSS : x.S = x.c.st.toNat := rfl
  have HT0 := Lib.hid (left_bd Hr.out hOk)
  have HPM := Lib.hid (fun NP => PM.start (zs := zs) NP Hr.out hOk)
  have hp0 := fun i => (show (((x.pool zs).p i).av : Int) = lim x.c x.v + 1 by rw [hbe1]; simp only [Pool.p, Po.pool]; omega)
  have hp1 := fun i => (show (((x.pool zs).p i).le : Int) = lim x.c x.v + 2 + ((i % x.S : Nat) : Int) by rw [hbe1]; simp only [Pool.p, Po.pool, lwN]; omega)
  have hsm := fun i : Nat => (show 0 ≤ ((i % x.S : Nat) : Int) ∧ ((i % x.S : Nat) : Int) ≤ 8 by have := Nat.mod_lt i (show 0 < x.S by omega); omega)
  have HNw2 := fun i w L (h : Own W NoF L w) => Lib.hid (poolNew_any (w0 := W) (F0 := NoF) (L := L) (w := w) (pp := pp) (np := x.c.ps.length) (cp := cp) (pl := pl) (nl := x.c.ls.length) (cl := cl) x.c hst x.v (zs.getD i 0 % 50 + 1) ((i % x.S : Nat) : Int) hvb.1 (by omega) (hsm i).1 (hsm i).2 ((x.pool zs).p i) (hp0 i) (hp1 i) rfl rfl h)
  have HLf2 := fun wz w lg L (h1 : x.b + 1 + x.S < wz.length) (h2 : wz.length ≤ 10000) h3 (h : Own W NoF (memA 94 m wz lg :: L) w) => Lib.hid (Left_any (w0 := W) (F0 := NoF) (L := L) (w := w) (ws := wz) (lg := lg) (pp := pp) (np := x.c.ps.length) (cp := cp) (pl := pl) (nl := x.c.ls.length) (cl := cl) x.c hst x.v hvb.1 (by omega) (x.b + 1) x.S (by rw [hbe1]; omega) HS1.out h1 (by omega) h3 h)
  have HLf := HLf2 ws _ _ _ (by omega) (by omega) HLw.out hO
  obtain ⟨T, hT⟩ : ∃ T, T = leftP (x.b + 1) (lwN (x.b + 1)) x.S ws := ⟨_, rfl⟩
  rw [← hT] at HLf HT0 HPM
  obtain ⟨d0, d1, d2, d3, d4, d5, d6, d7, d8, d9, d10, d11, d12, d13⟩ := poCells hO.swap
  have HO := Lib.hid hO
  clear hT hO hp0 hp1 hsm hbe1 HPk HNw
  go_wp2_with fail
  refine HLf.out.mono ?_
  rintro e w6 ⟨rfl, hB⟩
  have hO := HO.out.below hB
  have hOz : Own W NoF [row (.slice none 0 0) 42 1 0 (ptC 0 fun _ => 0), stars (crewL 0 fun j => poolA 0 x.v ((x.pool zs).p j) s0P), memA 94 m ws [], blk W.heap.size (poO x (.slice pp x.c.ps.length cp) (.slice pl x.c.ls.length cl) ve (.slice pk x.l.length ck))] w6 := (hO.shut (K := [])).rowNil
  have HO1 := Lib.hid hOz
  obtain ⟨i0, hi0, hz0, hz1, hz2⟩ := info_parts Try.info_poolm
  have Hi0 := Lib.hid hi0
  have Hz0 := Lib.hid hz0
  have Hz1 := Lib.hid hz1
  have Hz2 := Lib.hid hz2
  obtain ⟨t0, t1⟩ := HT0.out
  have hg2 : ¬ x.c.st = 0 := by omega
  have HHlen := Lib.hid hlen
  clear hi0 hz0 hz1 hz2 hO hOz hB HLf HO d0 d1 d2 d3 d4 d5 d6 d7 d8 d9 d10 d11 d12 d13 hlen hSS hin2 hS8
  go_wp2_with fail
  go_loopw [14, 15] (fun v14 v15 wr => ∃ (i : Nat) (ga : Nat → Nat), i ≤ D ∧ v15 = .int .i64 i ∧ Own W NoF [row v14 42 1 i (ptC i ga), stars (crewL i fun j => poolA (ga j) x.v ((x.pool zs).p j) s0P), memA 94 m ws [], blk W.heap.size (poO x (.slice pp x.c.ps.length cp) (.slice pl x.c.ls.length cl) ve (.slice pk x.l.length ck))] wr) (fun v14 v15 _ => D - (intOf v15).toNat)
  case atStart => exact ⟨0, fun _ => 0, Nat.zero_le _, rfl, HO1.out⟩
  case round =>
    obtain ⟨i, ga, hi, rfl, hO⟩ := hrel
    clear HO1
    obtain ⟨pv, cv, rfl⟩ := row_slice hO
    by_cases hlt : i < D
    · have hzb := HZb.out i
      have XW := HZc.out i hlt
      have x0 := Stp.cell (show Stp W wr from hO.toBelow) XW
      have HN := HNw2 i
      obtain ⟨z, hz⟩ : ∃ z, z = zs.getD i 0 := ⟨_, rfl⟩
      rw [← hz] at hzb XW x0 HN
      obtain ⟨q, hq⟩ : ∃ q, z % 50 = q := ⟨_, rfl⟩
      have q1 : z.tmod 50 = q := by rw [← hq]; exact Int.tmod_eq_emod_of_nonneg hzb.1
      have q0 : 0 ≤ q ∧ q ≤ 49 := by omega
      have q2 : IntKind.i64.wrap z = z := IntWalk.i64_in _ (by omega)
      have q3 : IntKind.i64.wrap (q + 1) = q + 1 := IntWalk.i64_in _ (by omega)
      rw [hq] at HN
      obtain ⟨si, hsi⟩ : ∃ s : Nat, s = i % x.S := ⟨_, rfl⟩
      have hs1 : (i : Int) % x.c.st = (si : Int) := by rw [HS1.out, hsi]; omega
      have hs2 : (i : Int).tmod x.c.st = (si : Int) := by rw [Int.tmod_eq_emod_of_nonneg (by omega)]; exact hs1
      rw [← hsi] at HN
      have j1 : (i : Int) < (D : Int) := by omega
      obtain ⟨d0, d1, d2, d3, d4, d5, d6, d7, d8, d9, d10, d11, d12, d13⟩ := poCells hO.p3
      have HOd := Lib.hid hO.drew
      have b1 : i + 1 ≤ maxLen := by unfold maxLen; omega
      have b2 : (i + 1) * 8 ≤ 140737488355328 := by omega
      clear hO hz hsi d8 d9 d10 d11 d12 d13
      go_wp2_with fail
      go_region_held3 (fun w' => w'.cell? ⟨W.heap.size, 0, none⟩ = some (.int .i64 x.c.th) ∧ w'.cell? ⟨W.heap.size, 1, none⟩ = some (.int .i64 x.c.st) ∧ w'.cell? ⟨W.heap.size, 2, none⟩ = some (.int .i64 x.c.ga) ∧ w'.cell? ⟨W.heap.size, 3, none⟩ = some (.int .i64 x.c.le) ∧ w'.cell? ⟨W.heap.size, 4, none⟩ = some (.int .i64 x.c.re) ∧ w'.cell? ⟨W.heap.size, 5, none⟩ = some (.int .i64 x.c.ti) ∧ w'.cell? ⟨W.heap.size, 6, none⟩ = some (.slice pp x.c.ps.length cp) ∧ w'.cell? ⟨W.heap.size, 7, none⟩ = some (.slice pl x.c.ls.length cl) ∧ w'.cell? ⟨bz, oz + i, none⟩ = some (.int .u16 z)) (go_keep)
        (first
          | (refine step_append_row rfl (.tmp 65) (.tmp 82) 72 rfl 42 i0 _ Try.underlying72 Hi0.out Hz0.out Hz1.out Hz2.out rfl (by decide) (by simp [Act.eval]) (hR0.alloc (.cells #[.pointer (some ⟨gn, 0, none⟩)] 42)) ⟨w5.heap.size, 0, none⟩ 1 1 [.pointer (some ⟨gn, 0, none⟩)] (by simp [Act.eval]) rfl (news_at w5 [.pointer (some ⟨gn, 0, none⟩)] _ _ rfl) (by simp [Value.oneCell']) b1 b2 ?_; intro v' w8 hR hgr hn; obtain ⟨p', cp', rfl⟩ := row_slice hR; obtain ⟨d0, d1, d2, d3, d4, d5, d6, d7, d8, d9, d10, d11, d12, d13⟩ := poCells hR.p4; clear d8 d9 d10 d11 d12 d13; have x0 := Stp.cell (show Stp W w8 from hR.toBelow) XW)
          | (go_at_call 15; refine (HN _ _ HOd.out).out.mono ?_; rintro e w5 ⟨gn, rfl, hO⟩; have hR0 := hO.swap; obtain ⟨d0, d1, d2, d3, d4, d5, d6, d7, d8, d9, d10, d11, d12, d13⟩ := poCells hO.p4; clear d8 d9 d10 d11 d12 d13; have x0 := Stp.cell (show Stp W w5 from hO.toBelow) XW))
      all_goals
        have hQ : Own W NoF [row (.slice p' (i + 1) cp') 42 1 (i + 1) (ptC (i + 1) (fun j => if j = i then gn else ga j)), stars (crewL (i + 1) fun j => poolA (if j = i then gn else ga j) x.v ((x.pool zs).p j) s0P), memA 94 m ws [], blk W.heap.size (poO x (.slice pp x.c.ps.length cp) (.slice pl x.c.ls.length cl) ve (.slice pk x.l.length ck))] w8 := by
          have h := hR
          have e1 : ptC i ga ++ [.pointer (some ⟨gn, 0, none⟩)] = ptC (i + 1) (fun j => if j = i then gn else ga j) := by
            rw [← ptC_succ]
            simp only [if_pos]
            congr 1
            unfold ptC
            exact List.map_congr_left fun j hj => by have := List.mem_range.1 hj; simp only [show ¬ j = i by omega, if_false]
          rw [e1] at h
          refine h.under fun _ _ h => crew_more ?_
          simp only [if_pos]
          have e2 : crewL i (fun j => poolA (ga j) x.v ((x.pool zs).p j) s0P) = crewL i (fun j => poolA (if j = i then gn else ga j) x.v ((x.pool zs).p j) s0P) := crew_congr fun j hj => by simp only [show ¬ j = i by omega, if_false]
          rw [e2] at h
          exact h
        have HQ := Lib.hid hQ
        clear hQ hR hO hR0 hgr hn HOd
        go_wp2_with fail
        go_roundw
        case rel => exact ⟨i + 1, _, by omega, by go_num, HQ.out⟩
        case measure => simp [intOf]; omega
    · obtain rfl : i = D := by omega
      clear hlt hi
      obtain ⟨gp, cgp, cur, hvp, r1, r2, r3, r4, r5, r6⟩ := hO.rowBlk (by omega)
      injection hvp with hvp hvq hvp2
      clear hvq r1 r2 r3 r4 r5 r6 cur
      subst hvp hvp2
      have HO1 := Lib.hid hO
      clear hO
      have hmk := fun w => make_bools i D6 w
      go_wp2_with fail
      have HO2 := Lib.hid (HO1.out.new (ovO i fun _ => false))
      clear HO1
      unfold ovO at HO2
      generalize World.alloc wr _ = w7 at HO2 ⊢
      generalize wr.heap.size = bo at HO2 ⊢
      have HO3 : Own W NoF [memA 94 m ws [], blk bo (ovO i (fun _ => false)), row (.slice (some ⟨gp, 0, none⟩) i cv) 42 1 i (ptC i ga), stars (crewL i fun j => poolA (ga j) x.v ((x.pool zs).p j) ((fun _ => s0P) j)), blk W.heap.size (poO x (.slice pp x.c.ps.length cp) (.slice pl x.c.ls.length cl) ve (.slice pk x.l.length ck))] w7 := (HO2.out.p3).under fun _ _ h => h
      have HO3 := Lib.hid HO3
      have HX := Lib.hid (HPM.out NP)
      obtain ⟨Q, hQ⟩ : ∃ Q : Nat, Q = 40 * i := ⟨_, rfl⟩
      obtain ⟨M, hM⟩ : ∃ M : Nat, M = 40 * i * i := ⟨_, rfl⟩
      have hM2 : M ≤ 1440 ∧ 40 ≤ M := by
        have : i = 1 ∨ i = 2 ∨ i = 3 ∨ i = 4 ∨ i = 5 ∨ i = 6 := by omega
        rcases this with rfl | rfl | rfl | rfl | rfl | rfl <;> omega
      have g1 : 40 * (i : Int) = (Q : Int) := by omega
      have g2 : (Q : Int) * (i : Int) = (M : Int) := by rw [hM, hQ]; simp
      have g3 : Q ≤ 240 := by omega
      have HMM := Lib.hid hM.symm
      clear HO2 hQ hM HPM hmk hd1 hd2 hd3 hd4
      go_wp2_with fail
      go_loopw [17, 18] (fun v17 v18 wr => ∃ (k : Nat) (ov : Nat → Bool) (σ : Nat → PS) (wz : List Int) (lg : List Acc), k ≤ NP + M ∧ v17 = .int .i64 k ∧ PM (x.pool zs) T NP k ov σ wz lg ∧ Own W NoF [memA 94 m wz lg, blk bo (ovO i ov), row (.slice (some ⟨gp, 0, none⟩) i cv) 42 1 i (ptC i ga), stars (crewL i fun j => poolA (ga j) x.v ((x.pool zs).p j) (σ j)), blk W.heap.size (poO x (.slice pp x.c.ps.length cp) (.slice pl x.c.ls.length cl) ve (.slice pk x.l.length ck))] wr) (fun v17 v18 _ => NP + M - (intOf v17).toNat)
      case atStart => exact ⟨0, fun _ => false, fun _ => s0P, ws, [], Nat.zero_le _, rfl, HX.out, HO3.out⟩
      case round =>
        obtain ⟨k, ov, σ, wz, lg, hk, rfl, hE, hO⟩ := hrel
        clear HO3 HX
        obtain ⟨k0, k1, k2, k3⟩ := em_k (k : Int) i (by omega) D1
        have hk4 : ¬ (i : Int) = 0 := by omega
        have hk5 : k0 = k % i := by omega
        by_cases hlt : k < NP + M
        · have f0 : decide ((k : Int) < (NP : Int) + (M : Int)) = true := by simp; omega
          have f1 : IntKind.i64.wrap ((NP : Int) + (M : Int)) = (NP : Int) + (M : Int) := IntWalk.i64_in _ (by omega)
          by_cases hp : k < NP
          · have f2 : decide ((k : Int) < (NP : Int)) = true := by simp; omega
            obtain ⟨bp, op, cpp, hvp, hcp⟩ := HUc.out (by omega)
            injection hvp with hvp hvq hvp2
            clear hvq
            subst hvp hvp2
            have y0 := Stp.cell (show Stp W wr from hO.toBelow) (hcp k hp)
            have hub := HUb.out k
            have j1 : (k : Int) < (NP : Int) := by omega
            have Hk5 : Hid (NP ≤ k → k0 = k % i) := Lib.hid (fun h => absurd hp (by omega))
            clear hcp hk5
            generalize us.getD k 0 = u at *
            obtain ⟨kk, u1, u2, hkd⟩ := em_k u i hub.1 D1
            have u3 : IntKind.i64.wrap u = u := IntWalk.i64_in _ (by omega)
            have Hki : Hid (NP ≤ k → kk = k % i) := Lib.hid (fun h => absurd hp (by omega))
            clear Hk5
            have i1 : (kk : Int) < (i : Int) := by omega
            have HE := Lib.hid hE
            clear hE
            cases hov : ov kk
            · have o0 := ov_at hO.swap kk hkd
              rw [hov] at o0
              have p0 := ptr_at hO.p2 hkd
              have HOr := Lib.hid hO
              have HE2 := Lib.hid (pm_move Hr.out HD.out D1 D6 (by omega) HE.out kk hkd Hki.out hov)
              have hpre := Lib.hid (pm_pre Hr.out HD.out HE.out kk hkd)
              clear hO hov HE Hki
              go_wp2_with fail
              have h1 := (crew_pick hkd HOr.out.p3).under fun _ _ h => h.swap
              have H := pool_steps (ga kk) m x.v 94 ((x.pool zs).p kk) T (by omega) _ (σ kk) wz lg _ ⟨hpre.out.1, hpre.out.2.1, hpre.out.2.2.1, by have := hpre.out.2.2.2; omega⟩ h1
              simp only [poolM] at H
              generalize stepP ((x.pool zs).p kk) (σ kk) wz lg = A at HE2 H
              clear h1 hpre
              refine H.mono ?_
              rintro e w12 ⟨rfl, hO⟩
              have h2 := crew_back (f := fun j => poolA (ga j) x.v ((x.pool zs).p j) (σ j)) (g := fun j => poolA (ga j) x.v ((x.pool zs).p j) (updP σ kk A.1 j)) hkd (fun j hj => by simp only [updP, if_neg hj]) (by simp only [updP, if_pos]; exact hO.under fun _ _ h => h.swap)
              have h3 := h2.q3r
              have o1 := ov_at h3.swap kk hkd
              have o2 : w12.frozen? ⟨bo, kk, none⟩ = false := h3.swap.unfrozen
              have hO4 := (ov_set h3.swap kk hkd A.2.2.2).swap
              have HO4 := Lib.hid hO4
              clear hO h2 h3 hO4 H HOr o0 p0
              go_wp2_with fail
              go_roundw
              case rel => exact ⟨k + 1, fun j => if j = kk then A.2.2.2 else ov j, updP σ kk A.1, A.2.1, A.2.2.1, by omega, by go_num, HE2.out, HO4.out⟩
              case measure => simp [intOf]; omega
            · have o0 := ov_at hO.swap kk hkd
              rw [hov] at o0
              have HE2 := Lib.hid (pm_idle HD.out D1 D6 HE.out kk Hki.out hov)
              have HOr := Lib.hid hO
              clear hO hov HE Hki
              go_wp2_with fail
              go_roundw
              case rel => exact ⟨k + 1, ov, σ, wz, lg, by omega, by go_num, HE2.out, HOr.out⟩
              case measure => simp [intOf]; omega
          · have f2 : decide ((k : Int) < (NP : Int)) = false := by simp; omega
            obtain ⟨kk, hkk⟩ : ∃ kk, kk = k0 := ⟨_, rfl⟩
            subst hkk
            have hkd := k3
            have Hki : Hid (NP ≤ k → kk = k % i) := Lib.hid (fun _ => hk5)
            clear hk5
            have i1 : (kk : Int) < (i : Int) := by omega
            have HE := Lib.hid hE
            clear hE
            cases hov : ov kk
            · have o0 := ov_at hO.swap kk hkd
              rw [hov] at o0
              have p0 := ptr_at hO.p2 hkd
              have HOr := Lib.hid hO
              have HE2 := Lib.hid (pm_move Hr.out HD.out D1 D6 (by omega) HE.out kk hkd Hki.out hov)
              have hpre := Lib.hid (pm_pre Hr.out HD.out HE.out kk hkd)
              clear hO hov HE Hki
              go_wp2_with fail
              have h1 := (crew_pick hkd HOr.out.p3).under fun _ _ h => h.swap
              have H := pool_steps (ga kk) m x.v 94 ((x.pool zs).p kk) T (by omega) _ (σ kk) wz lg _ ⟨hpre.out.1, hpre.out.2.1, hpre.out.2.2.1, by have := hpre.out.2.2.2; omega⟩ h1
              simp only [poolM] at H
              generalize stepP ((x.pool zs).p kk) (σ kk) wz lg = A at HE2 H
              clear h1 hpre
              refine H.mono ?_
              rintro e w12 ⟨rfl, hO⟩
              have h2 := crew_back (f := fun j => poolA (ga j) x.v ((x.pool zs).p j) (σ j)) (g := fun j => poolA (ga j) x.v ((x.pool zs).p j) (updP σ kk A.1 j)) hkd (fun j hj => by simp only [updP, if_neg hj]) (by simp only [updP, if_pos]; exact hO.under fun _ _ h => h.swap)
              have h3 := h2.q3r
              have o1 := ov_at h3.swap kk hkd
              have o2 : w12.frozen? ⟨bo, kk, none⟩ = false := h3.swap.unfrozen
              have hO4 := (ov_set h3.swap kk hkd A.2.2.2).swap
              have HO4 := Lib.hid hO4
              clear hO h2 h3 hO4 H HOr o0 p0
              go_wp2_with fail
              go_roundw
              case rel => exact ⟨k + 1, fun j => if j = kk then A.2.2.2 else ov j, updP σ kk A.1, A.2.1, A.2.2.1, by omega, by go_num, HE2.out, HO4.out⟩
              case measure => simp [intOf]; omega
            · have o0 := ov_at hO.swap kk hkd
              rw [hov] at o0
              have HE2 := Lib.hid (pm_idle HD.out D1 D6 HE.out kk Hki.out hov)
              have HOr := Lib.hid hO
              clear hO hov HE Hki
              go_wp2_with fail
              go_roundw
              case rel => exact ⟨k + 1, ov, σ, wz, lg, by omega, by go_num, HE2.out, HOr.out⟩
              case measure => simp [intOf]; omega
        · have f0 : decide ((k : Int) < (NP : Int) + (M : Int)) = false := by simp; omega
          have f1 : IntKind.i64.wrap ((NP : Int) + (M : Int)) = (NP : Int) + (M : Int) := IntWalk.i64_in _ (by omega)
          have hkE : k = NP + M := by omega
          rw [hkE] at hE
          have hends := pm_end Hr.out HD.out D1 D6 (by omega) hE HMM.out
          clear hE hlt hk hkE k1 k2 k3 hk5 k0 HMM
          obtain ⟨hov, hZ, hb1, hb2, hb3⟩ := hends
          have HOV := Lib.hid hov
          have HZ := Lib.hid hZ
          have HBD := Lib.hid (And.intro hb1 (And.intro hb2 hb3))
          have HO5 := Lib.hid hO
          clear hov hZ hb1 hb2 hb3 hO
          go_wp2_with fail
          go_loopw [20, 21] (fun v20 v21 wr => ∃ j : Nat, j ≤ x.S ∧ v21 = .int .i64 j ∧ v20 = .int .i64 (sLN x j) ∧ Own W NoF [memA 94 m wz lg, blk bo (ovO i ov), row (.slice (some ⟨gp, 0, none⟩) i cv) 42 1 i (ptC i ga), stars (crewL i fun j => poolA (ga j) x.v ((x.pool zs).p j) (σ j)), blk W.heap.size (poO x (.slice pp x.c.ps.length cp) (.slice pl x.c.ls.length cl) ve (.slice pk x.l.length ck))] wr) (fun v20 v21 _ => x.S - (intOf v21).toNat)
          case atStart => exact ⟨0, Nat.zero_le _, rfl, by simp [sLN], HO5.out⟩
          case round =>
            obtain ⟨j, hj, rfl, rfl, hO⟩ := hrel
            clear HO5
            have hS8 := (Po.S_eq Hr.out).2
            obtain ⟨d0, d1, d2, d3, d4, d5, d6, d7, d8, d9, d10, d11, d12, d13⟩ := poCells hO.p4
            have hsu := sLN_succ x j
            have hsb := sLN_bd Hr.out j (by omega)
            have hle := Hr.out.le
            unfold Bd at hle
            have hst1 := HS1.out
            by_cases hlt : (j : Int) < x.c.st
            · have f3 : decide ((j : Int) < x.c.st) = true := by simp; omega
              have hw : IntKind.i64.wrap (sLN x j + x.c.le) = sLN x j + x.c.le := IntWalk.i64_in _ (by omega)
              have HOr := Lib.hid hO
              have Hsu := Lib.hid hsu
              have hjS : j < x.S := by omega
              clear hO hsu hst1
              generalize sLN x j = sl at *
              go_wp2_with fail
              go_roundw
              case rel => exact ⟨j + 1, by omega, by go_num, by rw [Hsu.out], HOr.out⟩
              case measure => simp [intOf]; omega
            · have f3 : decide ((j : Int) < x.c.st) = false := by simp; omega
              obtain rfl : j = x.S := by omega
              have HSL := Lib.hid (show sLN x x.S = x.S * x.c.le from rfl)
              obtain ⟨LS, hLS⟩ : ∃ LS, LS = sLN x x.S := ⟨_, rfl⟩
              rw [← hLS] at hsb HSL
              rw [← hLS]
              clear hsu hlt hst1 hLS hj
              have HO6 := Lib.hid hO
              clear hO
              go_wp2_with fail
              clear d0 d1 d2 d3 d4 d5 d6 d7 d8 d9 d10 d11 d12 d13
              go_loopw [12, 19, 22] (fun v12 v19 v22 wr => ∃ j : Nat, j ≤ i ∧ v22 = .int .i64 j ∧ v12 = .int .i64 (lfN x zs T σ j) ∧ v19 = .int .i64 (manyN x zs j) ∧ Own W NoF [memA 94 m wz lg, blk bo (ovO i ov), row (.slice (some ⟨gp, 0, none⟩) i cv) 42 1 i (ptC i ga), stars (crewL i fun j => poolA (ga j) x.v ((x.pool zs).p j) (σ j)), blk W.heap.size (poO x (.slice pp x.c.ps.length cp) (.slice pl x.c.ls.length cl) ve (.slice pk x.l.length ck))] wr) (fun v12 v19 v22 _ => i - (intOf v22).toNat)
              case atStart => exact ⟨0, Nat.zero_le _, rfl, by simp [lfN, sK], by simp [manyN, sK], HO6.out⟩
              case round =>
                obtain ⟨j, hj, rfl, rfl, rfl, hO⟩ := hrel
                clear HO6
                by_cases hlt : j < i
                · have hjz : j < zs.length := by rw [HD.out]; exact hlt
                  have hlf := lfN_succ HZ.out j hjz
                  have hlb := lfN_bd HZ.out t0 t1 j (by omega) (by rw [HD.out]; exact D6)
                  have hmn := manyN_succ x zs j
                  have hmb := manyN_bd (zs := zs) Hr.out j (by omega)
                  have hle := Hr.out.le
                  unfold Bd at hle
                  have o0 := ov_at hO.swap j hlt
                  rw [HOV.out j hlt] at o0
                  have p0 := ptr_at hO.p2 hlt
                  have XW := HZc.out j hlt
                  have x0 := Stp.cell (show Stp W wr from hO.toBelow) XW
                  have hzb := HZb.out j
                  obtain ⟨d0, d1, d2, d3, d4, d5, d6, d7, d8, d9, d10, d11, d12, d13⟩ := poCells hO.p4
                  generalize zs.getD j 0 = z at *
                  obtain ⟨q, hq⟩ : ∃ q, z % 50 = q := ⟨_, rfl⟩
                  have q1 : z.tmod 50 = q := by rw [← hq]; exact Int.tmod_eq_emod_of_nonneg hzb.1
                  have q0 : 0 ≤ q ∧ q ≤ 49 := by omega
                  have q2 : IntKind.i64.wrap z = z := IntWalk.i64_in _ (by omega)
                  rw [hq] at hlf hmn
                  have Hlf := Lib.hid hlf
                  have Hmn := Lib.hid hmn
                  have HOr := Lib.hid hO
                  have j1 : (j : Int) < (i : Int) := by omega
                  clear hlf hmn hO hjz
                  generalize lfN x zs T σ j = lf at *
                  generalize manyN x zs j = mn at *
                  have w1 : IntKind.i64.wrap (mn + q) = mn + q := IntWalk.i64_in _ (by omega)
                  have w2 : IntKind.i64.wrap (mn + q + 1) = mn + q + 1 := IntWalk.i64_in _ (by omega)
                  have w3 : IntKind.i64.wrap (mn + q + 1 + x.c.le) = mn + q + 1 + x.c.le := IntWalk.i64_in _ (by omega)
                  have w4 : IntKind.i64.wrap (lf - q) = lf - q := IntWalk.i64_in _ (by omega)
                  have w5 : IntKind.i64.wrap (lf - q - 1) = lf - q - 1 := IntWalk.i64_in _ (by omega)
                  clear d8 d9 d10 d11 d12 d13
                  go_wp2_with fail
                  go_quiet (fail)
                  have hO := HOr.out.drewN nq
                  have p0 := ptr_at hO.p2 hlt
                  have x0 := Stp.cell (show Stp W _ from hO.toBelow) XW
                  have HP1 := crew_pick hlt hO.p3
                  have HA := Lib.hid (poolAns_any HP1)
                  have HO7 := Lib.hid hO
                  have fE := ans8M
                  unfold ansV at HA
                  clear hO HP1 HOr o0 d0 d1 d2 d3 d4 d5 d6 d7
                  generalize World.drewN wr nq = w13 at *
                  cases hrr : (σ j).r with
                  | true =>
                    have e1 : erP (σ j) = 4 ∧ anP x.v (σ j) = x.v := by unfold erP anP; rw [hrr]; exact ⟨rfl, rfl⟩
                    have Hl2 := Hlf.out
                    rw [hrr, if_pos rfl] at Hl2
                    simp only [e1.1, e1.2] at HA
                    have HL2 := Lib.hid (show lfN x zs T σ (j + 1) = lf by omega)
                    have HM2 := Lib.hid (show manyN x zs (j + 1) = mn + q + 1 + x.c.le by rw [Hmn.out]; omega)
                    clear e1 Hl2 Hlf hrr Hmn
                    go_wp2_with fail
                    refine HA.out.mono ?_
                    rintro e w14 ⟨rfl, hB⟩
                    have HO8 := Lib.hid (HO7.out.below hB)
                    clear HA HO7 hB p0 x0
                    go_wp2_with fail
                    go_roundw
                    case rel => exact ⟨j + 1, by omega, by go_num, by rw [HL2.out], by rw [HM2.out], HO8.out⟩
                    case measure => simp [intOf]; omega
                  | false =>
                    have e1 : erP (σ j) = 0 ∧ anP x.v (σ j) = 0 := by unfold erP anP; rw [hrr]; exact ⟨rfl, rfl⟩
                    have Hl2 := Hlf.out
                    rw [hrr, if_neg (by decide)] at Hl2
                    simp only [e1.1, e1.2] at HA
                    have HL2 := Lib.hid (show lfN x zs T σ (j + 1) = lf - q - 1 by omega)
                    have HM2 := Lib.hid (show manyN x zs (j + 1) = mn + q + 1 + x.c.le by rw [Hmn.out]; omega)
                    clear e1 Hl2 Hlf hrr Hmn
                    go_wp2_with fail
                    refine HA.out.mono ?_
                    rintro e w14 ⟨rfl, hB⟩
                    have HO8 := Lib.hid (HO7.out.below hB)
                    have x0 := Stp.cell hB x0
                    clear HA HO7 hB p0
                    go_wp2_with fail
                    go_roundw
                    case rel => exact ⟨j + 1, by omega, by go_num, by rw [HL2.out], by rw [HM2.out], HO8.out⟩
                    case measure => simp [intOf]; omega
                · obtain rfl : j = i := by omega
                  have hlb := lfN_bd HZ.out t0 t1 j (by rw [HD.out]; exact Nat.le_refl _) (by rw [HD.out]; exact D6)
                  have hmb := manyN_bd (zs := zs) Hr.out j (by omega)
                  have HREF := Lib.hid (show ∀ k, k < j → (σ k).r = true → T < LS + manyN x zs j from fun k hk hr => by have := ref_lt HZ.out k (by rw [HD.out]; exact hk) hr; rw [HD.out] at this; rw [HSL.out]; exact this)
                  have HSUM := Lib.hid (show leftP (x.b + 1) (lwN (x.b + 1)) x.S wz = lfN x zs T σ j from by have := HZ.out.sum; unfold lfN; rw [← HD.out]; exact this)
                  have HLP := Lib.hid (leftP_bd (S := x.S) HBD.out.2.2 x.S (Nat.le_refl _))
                  rw [HSUM.out] at HLP
                  generalize lfN x zs T σ j = lf at *
                  generalize manyN x zs j = mn at *
                  have HO9 := Lib.hid hO
                  clear hO hlt hj HZ HOV
                  go_wp2_with fail
                  go_loopw [23] (fun v23 wr => ∃ i : Nat, i ≤ j ∧ v23 = .int .i64 i ∧ Own W NoF [memA 94 m wz lg, blk bo (ovO j ov), row (.slice (some ⟨gp, 0, none⟩) j cv) 42 1 j (ptC j ga), stars (crewL j fun j => poolA (ga j) x.v ((x.pool zs).p j) (σ j)), blk W.heap.size (poO x (.slice pp x.c.ps.length cp) (.slice pl x.c.ls.length cl) ve (.slice pk x.l.length ck))] wr) (fun v23 _ => j - (intOf v23).toNat)
                  case atStart => exact ⟨0, Nat.zero_le _, rfl, HO9.out⟩
                  case round =>
                    obtain ⟨n, hn, rfl, hO⟩ := hrel
                    clear HO9
                    by_cases hlt : n < j
                    · have p0 := ptr_at hO.p2 hlt
                      have HP1 := crew_pick hlt hO.p3
                      have HA := Lib.hid (poolAns_any HP1)
                      have HO7 := Lib.hid hO
                      have fE := ans8M
                      have j1 : (n : Int) < (j : Int) := by omega
                      have w1 : IntKind.i64.wrap (mn + LS) = mn + LS := IntWalk.i64_in _ (by omega)
                      unfold ansV at HA
                      clear hO HP1
                      cases hrr : (σ n).r with
                      | true =>
                        have e1 : erP (σ n) = 4 ∧ anP x.v (σ n) = x.v := by unfold erP anP; rw [hrr]; exact ⟨rfl, rfl⟩
                        simp only [e1.1, e1.2] at HA
                        have hlt2 := HREF.out n hlt hrr
                        have f9 : decide (T ≥ mn + LS) = false := by simp; omega
                        have f10 : decide (mn + LS ≤ T) = false := by simp; omega
                        clear e1 hrr
                        go_wp2_with fail
                        refine HA.out.mono ?_
                        rintro e w14 ⟨rfl, hB⟩
                        have HO8 := Lib.hid (HO7.out.below hB)
                        clear HA HO7 hB p0
                        go_wp2_with fail
                        go_roundw
                        case rel => exact ⟨n + 1, by omega, by go_num, HO8.out⟩
                        case measure => simp [intOf]; omega
                      | false =>
                        have e1 : erP (σ n) = 0 ∧ anP x.v (σ n) = 0 := by unfold erP anP; rw [hrr]; exact ⟨rfl, rfl⟩
                        simp only [e1.1, e1.2] at HA
                        clear e1 hrr
                        go_wp2_with fail
                        refine HA.out.mono ?_
                        rintro e w14 ⟨rfl, hB⟩
                        have HO8 := Lib.hid (HO7.out.below hB)
                        clear HA HO7 hB p0
                        go_wp2_with fail
                        go_roundw
                        case rel => exact ⟨n + 1, by omega, by go_num, HO8.out⟩
                        case measure => simp [intOf]; omega
                    · have HLz := HLf2 wz wr lg _ HBD.out.1 HBD.out.2.1 HBD.out.2.2 hO
                      rw [HSUM.out] at HLz
                      obtain ⟨d0, d1, d2, d3, d4, d5, d6, d7, d8, d9, d10, d11, d12, d13⟩ := poCells hO.p4
                      have HO7 := Lib.hid hO
                      have hl0 : 0 ≤ lf := HLP.out.1
                      have f9 : decide (lf ≥ 0) = true := by simp; omega
                      have f10 : decide (0 ≤ lf) = true := by simp; omega
                      clear hO
                      go_wp2_with fail
                      refine HLz.out.mono ?_
                      rintro e w14 ⟨rfl, hB⟩
                      have HB := Lib.hid ((HO7.out.below hB).toBelow)
                      clear HLz HO7 hB d0 d1 d2 d3 d4 d5 d6 d7 d8 d9 d10 d11 d12 d13
                      go_wp2_with fail
                      go_ret
                      exact ⟨rfl, HB.out⟩
theorem PoolMany_calls (W : World) (x : Po) (vp vl ve vk : Value) (hwd : Wide x.c) (hwf : x.Wf) (hp : IntsAt W .i64 vp x.c.ps) (hl : IntsAt W .i64 vl x.c.ls) (he : IntsAt W .u32 ve x.ls) (hk : PksAt W vk x.l)
    (vz : Value) (zs : List Int) (zl : zs.length ≤ maxLen) (zw : ∀ n ∈ zs, (Lit.int .u16 n).wf = true) (zi : IntsAt W .u16 vz zs) (vu : Value) (us : List Int) (ul : us.length ≤ maxLen) (uw : ∀ n ∈ us, (Lit.int .u8 n).wf = true) (ui : IntsAt W .u8 vu us) :
    Calls Try.prog 7 #[poV x vp vl ve vk, vz, vu] W fun e w' => e = .returned (.bool true) ∧ Below W.heap.size W w' := by
  have hH : PoAt W x vp vl ve vk := ⟨hwd, hwf, hp, hl, he, hk⟩
  obtain ⟨pu, cu, rfl⟩ := ui.slice
  unfold maxLen at zl ul
  by_cases hg : GoodP x
  · by_cases h6 : zs.length ≤ 6
    · by_cases h2 : us.length ≤ 200
      · by_cases h1 : 1 ≤ zs.length
        · obtain ⟨bz, oz, cz, rfl, hcz⟩ := zi.at (by omega)
          exact PoolMany_main W x hH hg zs zs.length bz oz cz us us.length pu cu rfl h1 h6 h2 hcz (getD_bd _ _ (by decide) (by decide) fun n hn => law_wf (zw n hn)) (fun h => ui.at h) (getD_bd _ _ (by decide) (by decide) fun n hn => law_wf (uw n hn))
        · obtain ⟨pz, cz, rfl⟩ := zi.slice
          exact PoolMany_l0 W x hH hg pz _ cz pu _ cu h2 (by omega)
      · obtain ⟨pz, cz, rfl⟩ := zi.slice
        exact PoolMany_n200 W x hH hg pz _ cz pu _ cu h6 (by omega) (by omega)
    · obtain ⟨pz, cz, rfl⟩ := zi.slice
      exact PoolMany_l6 W x hH hg pz _ cz pu _ cu (by omega) (by omega)
  · obtain ⟨pz, cz, rfl⟩ := zi.slice
    exact PoolMany_bad W x hH hg pz _ cz pu _ cu
end Go.Proofs.Ytpapcblgojfooaa
