/- AdmitTwo. Written by tools/gen_admit*.py. -/
import Derived.Test.YtjohngpbggendaaGreatB14
import Derived.Test.YtjohngpbggendaaGreatB29
import Derived.Test.YtjohngpbggendaaGreatB42
import Derived.Test.YtjohngpbggendaaGreatB45
import Derived.Test.YtjohngpbggendaaGreatB46
import Derived.Test.YtjohngpbggendaaGreatB48
import Derived.Test.YtjohngpbggendaaGreatB50
import Derived.Lib.QuietBelow
import Derived.Deep.RegionWith
import Derived.BigQuiet
import Derived.Deep.QuietTactic
import Derived.Deep.RegionHeld3
namespace Go.Proofs.YtjohngpbggendaaGreat
open Go.ChangeShapes Go.WideShapes Go.ChangeAt Go.RowKit Go.Shelf
set_option linter.unusedVariables false
set_option linter.unusedSimpArgs false
set_option maxRecDepth 100000
theorem Tryz.info_admitm : (Tryz.prog.info? 43).map (fun i => (i.zero, i.size, i.bytes)) = some (some (.pointer none), 1, 8) := by kernel_rfl
/-- The machines that the law asks for. -/
def twP (x : Ak) (zs : List Int) (K : Nat) : AC := ⟨x.c, K, fun i => (lfOf x.c (zs.getD i 0).toNat).toNat, fun i => zs.getD i 0 % 30 + 1⟩
theorem twP_ok {x : Ak} {zs : List Int} {K : Nat} (hr : x.c.Rt) (hK : K ≤ 4) : ∀ k, k < (twP x zs K).K → ((twP x zs K).q k).Ok := fun k hk => by
  have h := lfOf_bd hr (zs.getD k 0).toNat
  have hk : k < K := hk
  exact ⟨hr, by show (lfOf x.c (zs.getD k 0).toNat).toNat < x.c.ps.length; omega, by show 1 ≤ zs.getD k 0 % 30 + 1; omega, by show zs.getD k 0 % 30 + 1 ≤ 1048576; omega, by show k ≤ 1000; omega⟩
theorem tw_v {x : Ak} {zs : List Int} {K : Nat} (hr : x.c.Rt) (k : Nat) : (((twP x zs K).q k).v : Int) = lfOf x.c (zs.getD k 0).toNat := by
  have h := (lfOf_bd hr (zs.getD k 0).toNat).2
  show (((lfOf x.c (zs.getD k 0).toNat).toNat : Nat) : Int) = _
  omega
theorem tw_left {W w : World} {L : List Asn} {m : Nat} {c : Cf} {wz : List Int} {lg : List Acc} {pp pl : Option Addr} {cp cl : Nat} (hr : c.Rt) (u : Nat) (hu : u < c.ps.length) {B : Int} (hB : B ≤ 2000000000000) (hn : NodeOk c B u wz) (hlen : wz.length = sizeN c) (h : Own W NoF (memA 110 m wz lg :: L) w) :
    Calls Tryz.prog 40 #[.pointer (some ⟨m, 0, none⟩), cfV c (.slice pp c.ps.length cp) (.slice pl c.ls.length cl), .int .i64 u] w fun e w' => e = .returned (.int .i64 (leftU c u wz)) ∧ Below w.heap.size w w' := by
  have st := st_nat hr
  have hle := hr.le
  unfold Bd at hle
  have hlt := limN_lt c hu
  have hs := sizeN_bd hr
  have hl1 := hlen
  unfold sizeN at hl1
  have n1 := hr.n1
  have h := Left_any (pp := pp) (np := c.ps.length) (cp := cp) (pl := pl) (nl := c.ls.length) (cl := cl) c hr.sm (u : Int) (by omega) (by omega) (avN c u) c.st.toNat (by rw [limN_eq hr.sm]; unfold avN; push_cast; rfl) st.1 (by unfold avN; omega) (by omega) (fun k hk => by
    rcases (show k = 0 ∨ ∃ j, k = j + 1 from by cases k with | zero => exact Or.inl rfl | succ j => exact Or.inr ⟨j, rfl⟩) with q | ⟨j, q⟩
    · subst q; have := hn.av; rw [Nat.add_zero]; omega
    · subst q; have := hn.le j (show j < c.st.toNat by omega); rw [show avN c u + (j + 1) = leN c u j by unfold avN leN; omega]; omega) h
  rw [show leftP (avN c u) (lwN (avN c u)) c.st.toNat wz = leftU c u wz from by
    unfold leftP leftU
    rw [sK_congr (f := fun i => wz.getD (lwN (avN c u) i) 0) (g := fun i => wz.getD (leN c u i) 0) _ (fun j _ => by show wz.getD (lwN (avN c u) j) 0 = wz.getD (leN c u j) 0; rw [show lwN (avN c u) j = leN c u j by unfold lwN avN leN; omega])]] at h
  exact h
theorem AdmitTwo_bad (W : World) (x : Ak) {vp vl vb va vk : Value} (H : AkAt W x vp vl vb va vk) (hg : ¬ GoodA x) (pz : Option Addr) (K cz : Nat) (pu : Option Addr) (NP cu : Nat) :
    Calls Tryz.prog 7 #[akV x vp vl vb va vk, .slice pz K cz, .slice pu NP cu] W fun e w' => e = .returned (.bool true) ∧ Below W.heap.size W w' := by
  obtain ⟨pp, cp, rfl⟩ := H.p.slice
  obtain ⟨pl, cl, rfl⟩ := H.l.slice
  have h0 := (Own.start W).new (akO x (.slice pp x.c.ps.length cp) (.slice pl x.c.ls.length cl) vb va vk)
  have Hh := Lib.hid (head12_any h0)
  have HG := fun w' (hb : Stp W w') => Lib.hid (aGood_no (w := w') (H.stp hb) hg)
  clear h0 hg
  unfold akV at HG ⊢
  clear H
  go_enter Tryz.func7, Tryz.ntmps7
  go_wp2_with fail
  refine Hh.out.mono ?_
  rintro e w1 ⟨rfl, hO⟩
  obtain ⟨d0, d1, d2, d3, d4, d5, d6, d7, d8, d9, d10, d11, d12, d13⟩ := akCells hO
  go_wp2_with fail
  refine (HG _ hO.toBelow).out.mono ?_
  rintro e w2 ⟨rfl, hB⟩
  have hO := hO.below hB
  clear hB HG Hh d0 d1 d2 d3 d4 d5 d6 d7 d8 d9 d10 d11 d12 d13
  have HB := Lib.hid hO.toBelow
  clear hO
  go_wp2_with fail
  go_ret
  exact ⟨rfl, HB.out⟩
theorem AdmitTwo_k0 (W : World) (x : Ak) {vp vl vb va vk : Value} (H : AkAt W x vp vl vb va vk) (hg : GoodA x)  (pz : Option Addr) (K cz : Nat) (pu : Option Addr) (NP cu : Nat) (hz : K = 0) :
    Calls Tryz.prog 7 #[akV x vp vl vb va vk, .slice pz K cz, .slice pu NP cu] W fun e w' => e = .returned (.bool true) ∧ Below W.heap.size W w' := by
  obtain ⟨pp, cp, rfl⟩ := H.p.slice
  obtain ⟨pl, cl, rfl⟩ := H.l.slice
  have h0 := (Own.start W).new (akO x (.slice pp x.c.ps.length cp) (.slice pl x.c.ls.length cl) vb va vk)
  have Hh := Lib.hid (head12_any h0)
  have HG := fun w' (hb : Stp W w') => Lib.hid (aGood_yes (w := w') (H.stp hb) hg)
  subst hz
  clear h0 hg
  unfold akV at HG ⊢
  clear H
  go_enter Tryz.func7, Tryz.ntmps7
  go_wp2_with fail
  refine Hh.out.mono ?_
  rintro e w1 ⟨rfl, hO⟩
  obtain ⟨d0, d1, d2, d3, d4, d5, d6, d7, d8, d9, d10, d11, d12, d13⟩ := akCells hO
  go_wp2_with fail
  refine (HG _ hO.toBelow).out.mono ?_
  rintro e w2 ⟨rfl, hB⟩
  have hO := hO.below hB
  clear hB HG Hh d0 d1 d2 d3 d4 d5 d6 d7 d8 d9 d10 d11 d12 d13
  have HB := Lib.hid hO.toBelow
  clear hO
  go_wp2_with fail
  go_ret
  exact ⟨rfl, HB.out⟩
theorem AdmitTwo_k4 (W : World) (x : Ak) {vp vl vb va vk : Value} (H : AkAt W x vp vl vb va vk) (hg : GoodA x)  (pz : Option Addr) (K cz : Nat) (pu : Option Addr) (NP cu : Nat) (h4 : 4 < K) (hK : K ≤ 9223372036854775807) :
    Calls Tryz.prog 7 #[akV x vp vl vb va vk, .slice pz K cz, .slice pu NP cu] W fun e w' => e = .returned (.bool true) ∧ Below W.heap.size W w' := by
  obtain ⟨pp, cp, rfl⟩ := H.p.slice
  obtain ⟨pl, cl, rfl⟩ := H.l.slice
  have h0 := (Own.start W).new (akO x (.slice pp x.c.ps.length cp) (.slice pl x.c.ls.length cl) vb va vk)
  have Hh := Lib.hid (head12_any h0)
  have HG := fun w' (hb : Stp W w') => Lib.hid (aGood_yes (w := w') (H.stp hb) hg)
  have hk1 : 1 ≤ K := by omega
  have hd3 : ((K : Int) == 0) = false := by rw [beq_eq_false_iff_ne]; omega
  have hd4 : decide ((K : Int) = 0) = false := by simp; omega
  have hd5 : ¬ K = 0 := by omega
  have hd1 : decide (4 < (K : Int)) = true := by simp; omega
  clear h0 hg
  unfold akV at HG ⊢
  clear H
  go_enter Tryz.func7, Tryz.ntmps7
  go_wp2_with fail
  refine Hh.out.mono ?_
  rintro e w1 ⟨rfl, hO⟩
  obtain ⟨d0, d1, d2, d3, d4, d5, d6, d7, d8, d9, d10, d11, d12, d13⟩ := akCells hO
  go_wp2_with fail
  refine (HG _ hO.toBelow).out.mono ?_
  rintro e w2 ⟨rfl, hB⟩
  have hO := hO.below hB
  clear hB HG Hh d0 d1 d2 d3 d4 d5 d6 d7 d8 d9 d10 d11 d12 d13
  have HB := Lib.hid hO.toBelow
  clear hO
  go_wp2_with fail
  go_ret
  exact ⟨rfl, HB.out⟩
theorem AdmitTwo_n300 (W : World) (x : Ak) {vp vl vb va vk : Value} (H : AkAt W x vp vl vb va vk) (hg : GoodA x)  (pz : Option Addr) (K cz : Nat) (pu : Option Addr) (NP cu : Nat) (hk1 : 1 ≤ K) (h4 : K ≤ 4) (h2 : 300 < NP) (hN : NP ≤ 9223372036854775807) :
    Calls Tryz.prog 7 #[akV x vp vl vb va vk, .slice pz K cz, .slice pu NP cu] W fun e w' => e = .returned (.bool true) ∧ Below W.heap.size W w' := by
  obtain ⟨pp, cp, rfl⟩ := H.p.slice
  obtain ⟨pl, cl, rfl⟩ := H.l.slice
  have h0 := (Own.start W).new (akO x (.slice pp x.c.ps.length cp) (.slice pl x.c.ls.length cl) vb va vk)
  have Hh := Lib.hid (head12_any h0)
  have HG := fun w' (hb : Stp W w') => Lib.hid (aGood_yes (w := w') (H.stp hb) hg)
  have hd3 : ((K : Int) == 0) = false := by rw [beq_eq_false_iff_ne]; omega
  have hd4 : decide ((K : Int) = 0) = false := by simp; omega
  have hd5 : ¬ K = 0 := by omega
  have hd1 : decide (4 < (K : Int)) = false := by simp; omega
  have hd2 : decide (300 < (NP : Int)) = true := by simp; omega
  clear h0 hg
  unfold akV at HG ⊢
  clear H
  go_enter Tryz.func7, Tryz.ntmps7
  go_wp2_with fail
  refine Hh.out.mono ?_
  rintro e w1 ⟨rfl, hO⟩
  obtain ⟨d0, d1, d2, d3, d4, d5, d6, d7, d8, d9, d10, d11, d12, d13⟩ := akCells hO
  go_wp2_with fail
  refine (HG _ hO.toBelow).out.mono ?_
  rintro e w2 ⟨rfl, hB⟩
  have hO := hO.below hB
  clear hB HG Hh d0 d1 d2 d3 d4 d5 d6 d7 d8 d9 d10 d11 d12 d13
  have HB := Lib.hid hO.toBelow
  clear hO
  go_wp2_with fail
  go_ret
  exact ⟨rfl, HB.out⟩
set_option maxHeartbeats 20000000 in
theorem AdmitTwo_main (W : World) (x : Ak) {vp vl vb va vk : Value} (H : AkAt W x vp vl vb va vk) (hg : GoodA x) (zs : List Int) (K bz oz cz : Nat) (us : List Int) (NP : Nat) (pu : Option Addr) (cu : Nat) (K1 : 1 ≤ K) (K4 : K ≤ 4) (np3 : NP ≤ 300) (HZc : Hid (∀ j, j < K → W.cell? ⟨bz, oz + j, none⟩ = some (.int .u16 (zs.getD j 0)))) (HZb : Hid (∀ j, 0 ≤ zs.getD j 0 ∧ zs.getD j 0 ≤ 65535)) (HUc : Hid (0 < NP → ∃ bp op cp, (Value.slice pu NP cu = .slice (some ⟨bp, op, none⟩) NP cp) ∧ ∀ j, j < NP → W.cell? ⟨bp, op + j, none⟩ = some (.int .u8 (us.getD j 0)))) (HUb : Hid (∀ j, 0 ≤ us.getD j 0 ∧ us.getD j 0 ≤ 255)) :
    Calls Tryz.prog 7 #[akV x vp vl vb va vk, .slice (some ⟨bz, oz, none⟩) K cz, .slice pu NP cu] W fun e w' => e = .returned (.bool true) ∧ Below W.heap.size W w' := by
  obtain ⟨pp, cp, rfl⟩ := H.p.slice
  obtain ⟨pl, cl, rfl⟩ := H.l.slice
  have h0 := (Own.start W).new (akO x (.slice pp x.c.ps.length cp) (.slice pl x.c.ls.length cl) vb va vk)
  have Hh := Lib.hid (head12_any h0)
  have hr := hg.rt
  have hl40 := hg.l
  have hwfx := H.wf
  have HG := fun w' (hb : Stp W w') => Lib.hid (aGood_yes (w := w') (H.stp hb) hg)
  have HOf := fun w' (hb : Stp W w') => Lib.hid (aOf_any (w := w') (H.stp hb) hr)
  have HWd := fun w L (h : Own W NoF L w) => Lib.hid (aWords_any H hg h)
  have HNw := fun w L (h : Own W NoF L w) => Lib.hid (adNew_any (W := W) (L := L) (w := w) x.p (Ak.p_ok hr) H.p H.l h)
  have Hp := Lib.hid H.p
  have Hl := Lib.hid H.l
  have Hr := Lib.hid hr
  have Hdw := Lib.hid (akW_dw x hr hwfx)
  have hn0 := hr.n0
  have hn1 := hr.n1
  have HTy := Lib.hid (show Ak.p x = ⟨x.c, x.v, x.k, x.t⟩ from rfl)
  have hd3 : ((K : Int) == 0) = false := by rw [beq_eq_false_iff_ne]; omega
  have hd4 : decide ((K : Int) = 0) = false := by simp; omega
  have hd5 : ¬ K = 0 := by omega
  have hd1 : decide (4 < (K : Int)) = false := by simp; omega
  have hd2 : decide (300 < (NP : Int)) = false := by simp; omega
  clear h0 hg hr hwfx
  unfold akV at HG HOf HWd ⊢
  clear H
  go_enter Tryz.func7, Tryz.ntmps7
  go_wp2_with fail
  refine Hh.out.mono ?_
  rintro e w1 ⟨rfl, hO⟩
  obtain ⟨d0, d1, d2, d3, d4, d5, d6, d7, d8, d9, d10, d11, d12, d13⟩ := akCells hO
  go_wp2_with fail
  refine (HG _ hO.toBelow).out.mono ?_
  rintro e w2 ⟨rfl, hB⟩
  have hO := hO.below hB
  clear hB HG Hh d0 d1 d2 d3 d4 d5 d6 d7 d8 d9 d10 d11 d12 d13
  obtain ⟨d0, d1, d2, d3, d4, d5, d6, d7, d8, d9, d10, d11, d12, d13⟩ := akCells hO
  go_wp2_with fail
  refine (HWd _ _ hO).out.mono ?_
  rintro e w4 ⟨vw, rfl, hO⟩
  clear HWd d0 d1 d2 d3 d4 d5 d6 d7 d8 d9 d10 d11 d12 d13
  have hlen0 := akA_len x (akRA x)
  obtain ⟨ws, hws⟩ : ∃ ws, ws = akW x := ⟨_, rfl⟩
  rw [← hws] at hO Hdw
  have HLn := Lib.hid (show ws.length = sizeN x.c from by rw [hws]; exact hlen0)
  rw [← HLn.out] at hO
  have Hws := Lib.hid hws
  have hlen : 2 ≤ ws.length ∧ ws.length ≤ 400 := by
    have h1 := sizeN_bd Hr.out
    have h2 := (ti_nat Hr.out).2.1
    have h3 := HLn.out
    unfold sizeN at h1 h3
    omega
  clear hlen0 hws
  have HLd := Lib.hid (pLaid_any (by omega) (by omega) hO)
  clear hO
  go_wp2_with fail
  refine HLd.out.mono ?_
  rintro e w5 ⟨m, rfl, hO⟩
  clear HLd
  have hO : Own W NoF [memA 110 m ws [], blk W.heap.size (akO x (.slice pp x.c.ps.length cp) (.slice pl x.c.ls.length cl) vb va vk)] w5 := hO.under fun _ _ h => h.drop
  have hPok := twP_ok (zs := zs) Hr.out K4
  have HN : ∀ i w L, i < K → Own W NoF L w → Hid (Calls Tryz.prog 14 #[cfV x.c (.slice pp x.c.ps.length cp) (.slice pl x.c.ls.length cl), .int .i64 (lfOf x.c (zs.getD i 0).toNat), .int .i64 (zs.getD i 0 % 30 + 1), .int .i64 i] w fun e w' => ∃ g, e = .returned (.pointer (some ⟨g, 0, none⟩)) ∧ Own W NoF (adA (.slice pp x.c.ps.length cp) (.slice pl x.c.ls.length cl) g ((twP x zs K).q i) (s0D ((twP x zs K).q i)) :: L) w') := fun i w L hi h => by
    have h := adNew_any (W := W) (L := L) (w := w) ((twP x zs K).q i) (hPok i hi) Hp.out Hl.out h
    rw [tw_v Hr.out i] at h
    exact Lib.hid h
  have HLf := fun (i : Nat) w' (hs : Stp W w') => (show Calls Tryz.prog 41 #[cfV x.c (.slice pp x.c.ps.length cp) (.slice pl x.c.ls.length cl), .int .i64 (zs.getD i 0)] w' fun e w'' => e = .returned (.int .i64 (lfOf x.c (zs.getD i 0).toNat)) ∧ Below w'.heap.size w' w'' from by
    have hb := HZb.out i
    have h := aLeaf_any x.c Hr.out (Hp.out.stp hs) (Hl.out.stp hs) (zs.getD i 0).toNat (by omega)
    rw [show (((zs.getD i 0).toNat : Nat) : Int) = zs.getD i 0 by omega] at h
    exact h)
  have HO1 := Lib.hid (show Own W NoF [row (.slice none 0 0) 3 1 0 (intC (fnL 0 (fun j => leftU x.c j ws))), memA 110 m ws [], blk W.heap.size (akO x (.slice pp x.c.ps.length cp) (.slice pl x.c.ls.length cl) vb va vk)] w5 from hO.rowNil)
  obtain ⟨i0, hi0, hz0, hz1, hz2⟩ := info_parts Tryz.info_int
  have Hi0 := Lib.hid hi0
  have Hz0 := Lib.hid hz0
  have Hz1 := Lib.hid hz1
  have Hz2 := Lib.hid hz2
  clear hi0 hz0 hz1 hz2 hO HNw
  go_wp2_with fail
  go_loopw [9, 10] (fun v9 v10 wr => ∃ u : Nat, u ≤ x.c.ps.length ∧ v10 = .int .i64 u ∧ Own W NoF [row v9 3 1 u (intC (fnL u (fun j => leftU x.c j ws))), memA 110 m ws [], blk W.heap.size (akO x (.slice pp x.c.ps.length cp) (.slice pl x.c.ls.length cl) vb va vk)] wr) (fun v9 v10 _ => x.c.ps.length - (intOf v10).toNat)
  case atStart => exact ⟨0, Nat.zero_le _, rfl, HO1.out⟩
  case round =>
    obtain ⟨u, hu, rfl, hO⟩ := hrel
    clear HO1
    obtain ⟨p9, c9, rfl⟩ := row_slice hO
    obtain ⟨d0, d1, d2, d3, d4, d5, d6, d7, d8, d9, d10, d11, d12, d13⟩ := akCells hO.p2
    by_cases hlt : u < x.c.ps.length
    · have g1 : (u : Int) < (x.c.ps.length : Int) := by omega
      have HL1 := Lib.hid (tw_left (pp := pp) (cp := cp) (pl := pl) (cl := cl) Hr.out u hlt (by decide) (Hdw.out.node u hlt) HLn.out hO.swap)
      have b1 : u + 1 ≤ maxLen := by unfold maxLen; omega
      have b2 : (u + 1) * 8 ≤ 140737488355328 := by omega
      have HS := Lib.hid (show intC (fnL u (fun j => leftU x.c j ws)) ++ [.int .i64 (leftU x.c u ws)] = intC (fnL (u + 1) (fun j => leftU x.c j ws)) by rw [← fnL_succ]; simp [intC])
      have HO := Lib.hid hO
      clear hO
      go_wp2_with fail
      refine HL1.out.mono ?_
      rintro e w6 ⟨rfl, hB⟩
      have hO := HO.out.below hB
      have HR0 := Lib.hid (hO.alloc (.cells #[.int .i64 (leftU x.c u ws)] 3))
      have Hnw := Lib.hid (news_at w6 [.int .i64 (leftU x.c u ws)] 3 _ rfl)
      obtain ⟨LU, hLU⟩ : ∃ LU, LU = leftU x.c u ws := ⟨_, rfl⟩
      rw [← hLU] at HR0 Hnw HS ⊢
      clear hO HO HL1 hB hLU d0 d1 d2 d3 d4 d5 d6 d7 d8 d9 d10 d11 d12 d13
      go_wp2_with (first | (at_builtin; refine wpList_append_row rfl (.tmp 51) (.tmp 57) 22 rfl 3 i0 _ Tryz.underlying22 Hi0.out Hz0.out Hz1.out Hz2.out rfl (by decide) rfl HR0.out ⟨w6.heap.size, 0, none⟩ 1 1 [.int .i64 LU] rfl rfl Hnw.out (by simp [Value.oneCell']) b1 b2 ?_; intro v' w8 hR hgr hn; obtain ⟨p', cp', rfl⟩ := row_slice hR; clear hgr hn HR0 Hnw))
      rw [HS.out] at hR
      have HQ := Lib.hid hR
      clear hR
      go_wp2_with fail
      go_roundw
      case rel => exact ⟨u + 1, by omega, by go_num, HQ.out⟩
      case measure => simp [intOf]; omega
    · obtain rfl : u = x.c.ps.length := by omega
      clear hlt hu
      obtain ⟨gl, cgl, cur, hvp, r1, r2, r3, r4, r5, r6⟩ := hO.rowBlk (by omega)
      injection hvp with hvp hvq hvp2
      clear hvq r1 r2 r3 r4 r5 r6 cur
      subst hvp hvp2
      obtain ⟨j0, hj0, hy0, hy1, hy2⟩ := info_parts Tryz.info_admitm
      have Hj0 := Lib.hid hj0
      have Hy0 := Lib.hid hy0
      have Hy1 := Lib.hid hy1
      have Hy2 := Lib.hid hy2
      obtain ⟨cl9, hcl9⟩ : ∃ q, q = c9 := ⟨_, rfl⟩
      rw [← hcl9] at hO
      have hO2 : Own W NoF [row (.slice none 0 0) 43 1 0 (ptC 0 fun _ => 0), stars (crewL 0 fun j => adA (.slice pp x.c.ps.length cp) (.slice pl x.c.ls.length cl) 0 ((twP x zs K).q j) (s0D ((twP x zs K).q j))), memA 110 m ws [], row (.slice (some ⟨gl, 0, none⟩) x.c.ps.length cl9) 3 1 x.c.ps.length (intC (fnL x.c.ps.length (fun j => leftU x.c j ws))), blk W.heap.size (akO x (.slice pp x.c.ps.length cp) (.slice pl x.c.ls.length cl) vb va vk)] wr := (hO.swap.shut (K := [])).rowNil
      have HO1 := Lib.hid hO2
      rw [← hcl9]
      clear hO hO2 hj0 hy0 hy1 hy2 hcl9
      go_wp2_with fail
      clear d0 d1 d2 d3 d4 d5 d6 d7 d8 d9 d10 d11 d12 d13
      go_loopw [11, 12] (fun v11 v12 wr => ∃ (i : Nat) (ga : Nat → Nat), i ≤ K ∧ v12 = .int .i64 i ∧ Own W NoF [row v11 43 1 i (ptC i ga), stars (crewL i fun j => adA (.slice pp x.c.ps.length cp) (.slice pl x.c.ls.length cl) (ga j) ((twP x zs K).q j) (s0D ((twP x zs K).q j))), memA 110 m ws [], row (.slice (some ⟨gl, 0, none⟩) x.c.ps.length cl9) 3 1 x.c.ps.length (intC (fnL x.c.ps.length (fun j => leftU x.c j ws))), blk W.heap.size (akO x (.slice pp x.c.ps.length cp) (.slice pl x.c.ls.length cl) vb va vk)] wr) (fun v11 v12 _ => K - (intOf v12).toNat)
      case atStart => exact ⟨0, fun _ => 0, Nat.zero_le _, rfl, HO1.out⟩
      case round =>
        obtain ⟨i, ga, hi, rfl, hO⟩ := hrel
        clear HO1
        obtain ⟨pv, cv, rfl⟩ := row_slice hO
        by_cases hlt : i < K
        · have hzb := HZb.out i
          have XW := HZc.out i hlt
          have x0 := Stp.cell (show Stp W wr from hO.toBelow) XW
          have HN1 := fun w L h => HN i w L hlt h
          have HLf1 := fun w' hs => Lib.hid (HLf i w' hs)
          obtain ⟨z, hz⟩ : ∃ z, z = zs.getD i 0 := ⟨_, rfl⟩
          rw [← hz] at hzb XW x0 HN1 HLf1
          obtain ⟨q, hq⟩ : ∃ q, z % 30 = q := ⟨_, rfl⟩
          have q1 : z.tmod 30 = q := by rw [← hq]; exact Int.tmod_eq_emod_of_nonneg hzb.1
          have q0 : 0 ≤ q ∧ q ≤ 29 := by omega
          have q2 : IntKind.i64.wrap z = z := IntWalk.i64_in _ (by omega)
          have q3 : IntKind.i64.wrap (q + 1) = q + 1 := IntWalk.i64_in _ (by omega)
          rw [hq] at HN1
          generalize lfOf x.c z.toNat = LF at HN1 HLf1
          have j1 : (i : Int) < (K : Int) := by omega
          obtain ⟨d0, d1, d2, d3, d4, d5, d6, d7, d8, d9, d10, d11, d12, d13⟩ := akCells hO.p4
          have HOd := Lib.hid hO.drew
          have b1 : i + 1 ≤ maxLen := by unfold maxLen; omega
          have b2 : (i + 1) * 8 ≤ 140737488355328 := by omega
          clear hO hz d8 d9 d10 d11 d12 d13
          go_wp2_with fail
          go_region_held3 (fun w' => w'.cell? ⟨W.heap.size, 0, none⟩ = some (.int .i64 x.c.th) ∧ w'.cell? ⟨W.heap.size, 1, none⟩ = some (.int .i64 x.c.st) ∧ w'.cell? ⟨W.heap.size, 2, none⟩ = some (.int .i64 x.c.ga) ∧ w'.cell? ⟨W.heap.size, 3, none⟩ = some (.int .i64 x.c.le) ∧ w'.cell? ⟨W.heap.size, 4, none⟩ = some (.int .i64 x.c.re) ∧ w'.cell? ⟨W.heap.size, 5, none⟩ = some (.int .i64 x.c.ti) ∧ w'.cell? ⟨W.heap.size, 6, none⟩ = some (.slice pp x.c.ps.length cp) ∧ w'.cell? ⟨W.heap.size, 7, none⟩ = some (.slice pl x.c.ls.length cl) ∧ w'.cell? ⟨bz, oz + i, none⟩ = some (.int .u16 z)) (go_keep)
            (first
              | (refine step_append_row rfl (.tmp 65) (.tmp 85) 78 rfl 43 j0 _ Tryz.underlying78 Hj0.out Hy0.out Hy1.out Hy2.out rfl (by decide) (by simp [Act.eval]) (hR0.alloc (.cells #[.pointer (some ⟨gn, 0, none⟩)] 43)) ⟨w6.heap.size, 0, none⟩ 1 1 [.pointer (some ⟨gn, 0, none⟩)] (by simp [Act.eval]) rfl (news_at w6 [.pointer (some ⟨gn, 0, none⟩)] _ _ rfl) (by simp [Value.oneCell']) b1 b2 ?_; intro v' w8 hR hgr hn; obtain ⟨p', cp', rfl⟩ := row_slice hR; obtain ⟨d0, d1, d2, d3, d4, d5, d6, d7, d8, d9, d10, d11, d12, d13⟩ := akCells hR.p5; clear d8 d9 d10 d11 d12 d13; have x0 := Stp.cell (show Stp W w8 from hR.toBelow) XW)
              | (go_at_call 41; refine (HLf1 _ HOd.out.toBelow).out.mono ?_; rintro e w5 ⟨rfl, hB⟩; have HOd := Lib.hid (HOd.out.below hB); clear hB; obtain ⟨d0, d1, d2, d3, d4, d5, d6, d7, d8, d9, d10, d11, d12, d13⟩ := akCells HOd.out.p4; clear d8 d9 d10 d11 d12 d13; have x0 := Stp.cell (show Stp W w5 from HOd.out.toBelow) XW)
              | (go_at_call 14; refine (HN1 _ _ HOd.out).out.mono ?_; rintro e w6 ⟨gn, rfl, hO⟩; have hR0 := hO.swap; obtain ⟨d0, d1, d2, d3, d4, d5, d6, d7, d8, d9, d10, d11, d12, d13⟩ := akCells hO.p5; clear d8 d9 d10 d11 d12 d13; have x0 := Stp.cell (show Stp W w6 from hO.toBelow) XW))
          all_goals
            have hQ : Own W NoF [row (.slice p' (i + 1) cp') 43 1 (i + 1) (ptC (i + 1) (fun j => if j = i then gn else ga j)), stars (crewL (i + 1) fun j => adA (.slice pp x.c.ps.length cp) (.slice pl x.c.ls.length cl) (if j = i then gn else ga j) ((twP x zs K).q j) (s0D ((twP x zs K).q j))), memA 110 m ws [], row (.slice (some ⟨gl, 0, none⟩) x.c.ps.length cl9) 3 1 x.c.ps.length (intC (fnL x.c.ps.length (fun j => leftU x.c j ws))), blk W.heap.size (akO x (.slice pp x.c.ps.length cp) (.slice pl x.c.ls.length cl) vb va vk)] w8 := by
              have h := hR
              have e1 : ptC i ga ++ [.pointer (some ⟨gn, 0, none⟩)] = ptC (i + 1) (fun j => if j = i then gn else ga j) := by
                rw [← ptC_succ]
                simp only [if_pos]
                congr 1
                unfold ptC
                exact List.map_congr_left fun j hj => by have := List.mem_range.1 hj; simp only [show ¬ j = i by omega, if_false]
              rw [e1] at h
              refine h.under fun _ _ h => crew_more ?_
              simp only [if_pos]
              have e2 : crewL i (fun j => adA (.slice pp x.c.ps.length cp) (.slice pl x.c.ls.length cl) (ga j) ((twP x zs K).q j) (s0D ((twP x zs K).q j))) = crewL i (fun j => adA (.slice pp x.c.ps.length cp) (.slice pl x.c.ls.length cl) (if j = i then gn else ga j) ((twP x zs K).q j) (s0D ((twP x zs K).q j))) := crew_congr fun j hj => by simp only [show ¬ j = i by omega, if_false]
              rw [e2] at h
              exact h
            have HQ := Lib.hid hQ
            clear hQ hR hO hR0 hgr hn HOd
            go_wp2_with fail
            go_roundw
            case rel => exact ⟨i + 1, _, by omega, by go_num, HQ.out⟩
            case measure => simp [intOf]; omega
        · obtain rfl : K = i := by omega
          clear hlt hi HN
          obtain ⟨gp, cgp, cur, hvp, r1, r2, r3, r4, r5, r6⟩ := hO.rowBlk (by omega)
          injection hvp with hvp hvq hvp2
          clear hvq r1 r2 r3 r4 r5 r6 cur
          subst hvp hvp2
          have HO1 := Lib.hid hO
          clear hO
          have hmk := fun w => make_bools K (by omega) w
          go_wp2_with fail
          have HO2 := Lib.hid (HO1.out.new (ovO K fun _ => false))
          clear HO1
          unfold ovO at HO2
          generalize World.alloc wr _ = w7 at HO2 ⊢
          generalize wr.heap.size = bo at HO2 ⊢
          have HO3 : Own W NoF [memA 110 m ws [], blk bo (ovO K (fun _ => false)), row (.slice (some ⟨gp, 0, none⟩) K cv) 43 1 K (ptC K ga), stars (crewL K fun j => adA (.slice pp x.c.ps.length cp) (.slice pl x.c.ls.length cl) (ga j) ((twP x zs K).q j) ((fun j => s0D ((twP x zs K).q j)) j)), row (.slice (some ⟨gl, 0, none⟩) x.c.ps.length cl9) 3 1 x.c.ps.length (intC (fnL x.c.ps.length (fun j => leftU x.c j ws))), blk W.heap.size (akO x (.slice pp x.c.ps.length cp) (.slice pl x.c.ls.length cl) vb va vk)] w7 := HO2.out.p3
          have HO3 := Lib.hid HO3
          have HX := Lib.hid (TM.start (P := twP x zs K) (B0 := 1099511627776) NP hPok Hdw.out)
          have HStp := Lib.hid (fun kk (g : Nat) L (s : DS) wz lg w hok h => ad_steps (W := W) g m 110 ((twP x zs K).q kk) Hp.out Hl.out L s wz lg w hok h)
          obtain ⟨M, hM⟩ : ∃ M : Nat, M = 4000 * K := ⟨_, rfl⟩
          have g1 : 4000 * (K : Int) = (M : Int) := by omega
          have g3 : M ≤ 16000 := by omega
          have HMM := Lib.hid hM.symm
          clear HO2 hM hmk
          go_wp2_with fail
          go_loopw [14, 15] (fun v14 v15 wr => ∃ (k : Nat) (ov : Nat → Bool) (σ : Nat → DS) (wz : List Int) (lg : List Acc), k ≤ NP + M ∧ v14 = .int .i64 k ∧ TM (twP x zs K) 1099511627776 ws NP k ov σ wz lg ∧ Own W NoF [memA 110 m wz lg, blk bo (ovO K ov), row (.slice (some ⟨gp, 0, none⟩) K cv) 43 1 K (ptC K ga), stars (crewL K fun j => adA (.slice pp x.c.ps.length cp) (.slice pl x.c.ls.length cl) (ga j) ((twP x zs K).q j) (σ j)), row (.slice (some ⟨gl, 0, none⟩) x.c.ps.length cl9) 3 1 x.c.ps.length (intC (fnL x.c.ps.length (fun j => leftU x.c j ws))), blk W.heap.size (akO x (.slice pp x.c.ps.length cp) (.slice pl x.c.ls.length cl) vb va vk)] wr) (fun v14 v15 _ => NP + M - (intOf v14).toNat)
          case atStart => exact ⟨0, fun _ => false, fun j => s0D ((twP x zs K).q j), ws, [], Nat.zero_le _, rfl, HX.out, HO3.out⟩
          case round =>
            obtain ⟨k, ov, σ, wz, lg, hk, rfl, hE, hO⟩ := hrel
            clear HO3 HX
            obtain ⟨k0, k1, k2, k3⟩ := em_k (k : Int) K (by omega) K1
            have hk5 : k0 = k % K := by omega
            by_cases hlt : k < NP + M
            · have f0 : decide ((k : Int) < (NP : Int) + (M : Int)) = true := by simp; omega
              have f1 : IntKind.i64.wrap ((NP : Int) + (M : Int)) = (NP : Int) + (M : Int) := IntWalk.i64_in _ (by omega)
              by_cases hp : k < NP
              · have f2 : decide ((k : Int) < (NP : Int)) = true := by simp; omega
                obtain ⟨bp, op, cpp, hvp, hcp⟩ := HUc.out (by omega)
                injection hvp with hvp hvq hvp2
                clear hvq
                subst hvp hvp2
                have y0 := Stp.cell (show Stp W wr from hO.toBelow) (hcp k hp)
                have hub := HUb.out k
                have j1 : (k : Int) < (NP : Int) := by omega
                have Hk5 : Hid (NP ≤ k → k0 = k % K) := Lib.hid (fun h => absurd hp (by omega))
                clear hcp hk5
                generalize us.getD k 0 = u at *
                obtain ⟨kk, u1, u2, hkd⟩ := em_k u K hub.1 K1
                have u3 : IntKind.i64.wrap u = u := IntWalk.i64_in _ (by omega)
                have Hki : Hid (NP ≤ k → kk = k % K) := Lib.hid (fun h => absurd hp (by omega))
                clear Hk5
                have i1 : (kk : Int) < (K : Int) := by omega
                have HE := Lib.hid hE
                clear hE
                cases hov : ov kk
                · have o0 := ov_at hO.swap kk hkd
                  rw [hov] at o0
                  have p0 := ptr_in hO.p2 hkd
                  have HOr := Lib.hid hO
                  have HE2 := Lib.hid (HE.out.move hPok (by decide) (by omega) ⟨K1, K4⟩ kk hkd Hki.out hov)
                  have hpre := Lib.hid (HE.out.pre (by decide) (by omega) kk hkd)
                  clear hO hov HE Hki
                  go_wp2_with fail
                  have h1 := (crew_pick hkd HOr.out.p3).under fun _ _ h => h.swap
                  have H := HStp.out kk (ga kk) _ (σ kk) wz lg _ ⟨hPok kk hkd, hpre.out.1, by have := hpre.out.2; omega⟩ h1
                  simp only [adM] at H
                  generalize stepD ((twP x zs K).q kk) (σ kk) wz lg = A at HE2 H
                  clear h1 hpre
                  refine H.mono ?_
                  rintro e w12 ⟨rfl, hO⟩
                  have h2 := crew_back (f := fun j => adA (.slice pp x.c.ps.length cp) (.slice pl x.c.ls.length cl) (ga j) ((twP x zs K).q j) (σ j)) (g := fun j => adA (.slice pp x.c.ps.length cp) (.slice pl x.c.ls.length cl) (ga j) ((twP x zs K).q j) (updD σ kk A.1 j)) hkd (fun j hj => by simp only [updD, if_neg hj]) (by simp only [updD, if_pos]; exact hO.under fun _ _ h => h.swap)
                  have h3 := h2.q3r
                  have o1 := ov_at h3.swap kk hkd
                  have o2 : w12.frozen? ⟨bo, kk, none⟩ = false := h3.swap.unfrozen
                  have hO4 := (ov_set h3.swap kk hkd A.2.2.2).swap
                  have HO4 := Lib.hid hO4
                  clear hO h2 h3 hO4 H HOr o0 p0
                  go_wp2_with fail
                  go_roundw
                  case rel => exact ⟨k + 1, fun j => if j = kk then A.2.2.2 else ov j, updD σ kk A.1, A.2.1, A.2.2.1, by omega, by go_num, HE2.out, HO4.out⟩
                  case measure => simp [intOf]; omega
                · have o0 := ov_at hO.swap kk hkd
                  rw [hov] at o0
                  have HE2 := Lib.hid (HE.out.idle ⟨K1, K4⟩ kk Hki.out hov)
                  have HOr := Lib.hid hO
                  clear hO hov HE Hki
                  go_wp2_with fail
                  go_roundw
                  case rel => exact ⟨k + 1, ov, σ, wz, lg, by omega, by go_num, HE2.out, HOr.out⟩
                  case measure => simp [intOf]; omega
              · have f2 : decide ((k : Int) < (NP : Int)) = false := by simp; omega
                obtain ⟨kk, hkk⟩ : ∃ kk, kk = k0 := ⟨_, rfl⟩
                subst hkk
                have hkd := k3
                have Hki : Hid (NP ≤ k → kk = k % K) := Lib.hid (fun _ => hk5)
                clear hk5
                have i1 : (kk : Int) < (K : Int) := by omega
                have HE := Lib.hid hE
                clear hE
                cases hov : ov kk
                · have o0 := ov_at hO.swap kk hkd
                  rw [hov] at o0
                  have p0 := ptr_in hO.p2 hkd
                  have HOr := Lib.hid hO
                  have HE2 := Lib.hid (HE.out.move hPok (by decide) (by omega) ⟨K1, K4⟩ kk hkd Hki.out hov)
                  have hpre := Lib.hid (HE.out.pre (by decide) (by omega) kk hkd)
                  clear hO hov HE Hki
                  go_wp2_with fail
                  have h1 := (crew_pick hkd HOr.out.p3).under fun _ _ h => h.swap
                  have H := HStp.out kk (ga kk) _ (σ kk) wz lg _ ⟨hPok kk hkd, hpre.out.1, by have := hpre.out.2; omega⟩ h1
                  simp only [adM] at H
                  generalize stepD ((twP x zs K).q kk) (σ kk) wz lg = A at HE2 H
                  clear h1 hpre
                  refine H.mono ?_
                  rintro e w12 ⟨rfl, hO⟩
                  have h2 := crew_back (f := fun j => adA (.slice pp x.c.ps.length cp) (.slice pl x.c.ls.length cl) (ga j) ((twP x zs K).q j) (σ j)) (g := fun j => adA (.slice pp x.c.ps.length cp) (.slice pl x.c.ls.length cl) (ga j) ((twP x zs K).q j) (updD σ kk A.1 j)) hkd (fun j hj => by simp only [updD, if_neg hj]) (by simp only [updD, if_pos]; exact hO.under fun _ _ h => h.swap)
                  have h3 := h2.q3r
                  have o1 := ov_at h3.swap kk hkd
                  have o2 : w12.frozen? ⟨bo, kk, none⟩ = false := h3.swap.unfrozen
                  have hO4 := (ov_set h3.swap kk hkd A.2.2.2).swap
                  have HO4 := Lib.hid hO4
                  clear hO h2 h3 hO4 H HOr o0 p0
                  go_wp2_with fail
                  go_roundw
                  case rel => exact ⟨k + 1, fun j => if j = kk then A.2.2.2 else ov j, updD σ kk A.1, A.2.1, A.2.2.1, by omega, by go_num, HE2.out, HO4.out⟩
                  case measure => simp [intOf]; omega
                · have o0 := ov_at hO.swap kk hkd
                  rw [hov] at o0
                  have HE2 := Lib.hid (HE.out.idle ⟨K1, K4⟩ kk Hki.out hov)
                  have HOr := Lib.hid hO
                  clear hO hov HE Hki
                  go_wp2_with fail
                  go_roundw
                  case rel => exact ⟨k + 1, ov, σ, wz, lg, by omega, by go_num, HE2.out, HOr.out⟩
                  case measure => simp [intOf]; omega
            · have f0 : decide ((k : Int) < (NP : Int) + (M : Int)) = false := by simp; omega
              have f1 : IntKind.i64.wrap ((NP : Int) + (M : Int)) = (NP : Int) + (M : Int) := IntWalk.i64_in _ (by omega)
              have hkE : k = NP + M := by omega
              have hends := (show TM (twP x zs K) 1099511627776 ws NP (NP + 4000 * (twP x zs K).K) ov σ wz lg by show TM (twP x zs K) 1099511627776 ws NP (NP + 4000 * K) ov σ wz lg; rw [HMM.out, ← hkE]; exact hE).end_ hPok (by decide) np3 ⟨K1, K4⟩
              clear hE hlt hk hkE k1 k2 k3 hk5 k0 HMM
              have HE := Lib.hid hends
              have hO4 : Own W NoF [row (.slice (some ⟨gl, 0, none⟩) x.c.ps.length cl9) 3 1 x.c.ps.length (intC (fnL x.c.ps.length (fun j => leftU x.c j ws))), memA 110 m wz lg, row (.slice (some ⟨gp, 0, none⟩) K cv) 43 1 K (ptC K ga), stars (crewL K fun j => adA (.slice pp x.c.ps.length cp) (.slice pl x.c.ls.length cl) (ga j) ((twP x zs K).q j) (σ j)), blk bo (ovO K ov), blk W.heap.size (akO x (.slice pp x.c.ps.length cp) (.slice pl x.c.ls.length cl) vb va vk)] wr := (hO.p4).under fun _ _ h => h.under fun _ _ h => h.q2r
              have HO := Lib.hid hO4
              have HAn := fun (k : Nat) (hk : k < K) X w' (h : Own W NoF [row (.slice (some ⟨gl, 0, none⟩) x.c.ps.length cl9) 3 1 x.c.ps.length (intC (fnL x.c.ps.length X)), memA 110 m wz lg, row (.slice (some ⟨gp, 0, none⟩) K cv) 43 1 K (ptC K ga), stars (crewL K fun j => adA (.slice pp x.c.ps.length cp) (.slice pl x.c.ls.length cl) (ga j) ((twP x zs K).q j) (σ j)), blk bo (ovO K ov), blk W.heap.size (akO x (.slice pp x.c.ps.length cp) (.slice pl x.c.ls.length cl) vb va vk)] w') => (show Calls Tryz.prog 19 #[.pointer (some ⟨ga k, 0, none⟩)] w' fun e w'' => e = .returned (.agg #[.int .i64 (σ k).er, .int .i64 (σ k).an, .bool false, .int .i64 (σ k).nd]) ∧ Below w'.heap.size w' w'' from by
                have h1 := adAns_any (crew_pick hk h.p3)
                obtain ⟨q1, q2, q3⟩ := ad_shut (HE.out.shut k hk)
                rw [q1, q2, q3] at h1
                exact h1)
              have HUn := fun (i u : Nat) w' (hs : Stp W w') => rUnder_any (w := w') x.c Hr.out.tr (Hp.out.stp hs) (Hl.out.stp hs) (lfOf x.c (zs.getD i 0).toNat) (u : Int)
              have HOn := Lib.hid (fun (i u : Nat) => show onB x.c.ps (lfOf x.c (zs.getD i 0).toNat) (u : Int) = true ↔ On (twP x zs K).c.ps ((twP x zs K).vv i) u from by
                have e : (((twP x zs K).vv i : Nat) : Int) = lfOf x.c (zs.getD i 0).toNat := tw_v (K := K) Hr.out i
                rw [e]; exact onB_iff)
              have HBd := Lib.hid (fun (u : Nat) (hu : u < x.c.ps.length) (i : Nat) (hi : i ≤ 4) => show -4000 ≤ lfE (twP x zs K) ws σ i u ∧ lfE (twP x zs K) ws σ i u ≤ 4000000000000 from lfE_bd (twP x zs K) ws σ (leftU_bd Hr.out (Hdw.out.node u hu) (by decide)) (fun k => by show 0 ≤ zs.getD k 0 % 30 + 1 ∧ zs.getD k 0 % 30 + 1 ≤ 1000; omega) i hi)
              clear hO hO4 hends HStp
              go_wp2_with fail
              clear f0 f1 g1 g3
              go_loopw [16, 17, 18] (fun v16 v17 v18 wr => ∃ i : Nat, i ≤ K ∧ v16 = .int .i64 i ∧ Own W NoF [row (.slice (some ⟨gl, 0, none⟩) x.c.ps.length cl9) 3 1 x.c.ps.length (intC (fnL x.c.ps.length (lfE (twP x zs K) ws σ i))), memA 110 m wz lg, row (.slice (some ⟨gp, 0, none⟩) K cv) 43 1 K (ptC K ga), stars (crewL K fun j => adA (.slice pp x.c.ps.length cp) (.slice pl x.c.ls.length cl) (ga j) ((twP x zs K).q j) (σ j)), blk bo (ovO K ov), blk W.heap.size (akO x (.slice pp x.c.ps.length cp) (.slice pl x.c.ls.length cl) vb va vk)] wr) (fun v16 v17 v18 _ => K - (intOf v16).toNat)
              case atStart => exact ⟨0, Nat.zero_le _, rfl, by have h := HO.out; rwa [show (fun j => leftU x.c j ws) = lfE (twP x zs K) ws σ 0 from (funext fun u => (lfE_zero (twP x zs K) ws σ u).symm)] at h⟩
              case round =>
                obtain ⟨i, hi, rfl, hO⟩ := hrel
                clear HO
                by_cases hlt : i < K
                · have o0 := ov_at hO.p4 i hlt
                  rw [HE.out.over i hlt] at o0
                  have p0 := ptr_in hO.p2 hlt
                  have j1 : (i : Int) < (K : Int) := by omega
                  have HA1 := Lib.hid (HAn i hlt _ _ hO)
                  have qe := ans12E (σ i).er (σ i).an false (σ i).nd
                  have HO := Lib.hid hO
                  clear hO
                  rcases HE.out.er i hlt with her | her
                  · rw [her] at HA1 qe
                    have Her := Lib.hid her
                    clear her
                    go_wp2_with fail
                    refine HA1.out.mono ?_
                    rintro e w20 ⟨rfl, hB⟩
                    have HO := Lib.hid (HO.out.below hB)
                    clear HA1 hB o0 p0
                    go_wp2_with fail
                    clear qe
                    go_loopw [17] (fun v17 wr => ∃ u : Nat, u ≤ x.c.ps.length ∧ v17 = .int .i64 u ∧ Own W NoF [row (.slice (some ⟨gl, 0, none⟩) x.c.ps.length cl9) 3 1 x.c.ps.length (intC (fnL x.c.ps.length (fun j => if j < u then lfE (twP x zs K) ws σ (i + 1) j else lfE (twP x zs K) ws σ i j))), memA 110 m wz lg, row (.slice (some ⟨gp, 0, none⟩) K cv) 43 1 K (ptC K ga), stars (crewL K fun j => adA (.slice pp x.c.ps.length cp) (.slice pl x.c.ls.length cl) (ga j) ((twP x zs K).q j) (σ j)), blk bo (ovO K ov), blk W.heap.size (akO x (.slice pp x.c.ps.length cp) (.slice pl x.c.ls.length cl) vb va vk)] wr) (fun v17 _ => x.c.ps.length - (intOf v17).toNat)
                    case atStart => exact ⟨0, Nat.zero_le _, rfl, by have h := HO.out; rwa [show lfE (twP x zs K) ws σ i = (fun j => if j < 0 then lfE (twP x zs K) ws σ (i + 1) j else lfE (twP x zs K) ws σ i j) from funext fun u => by rw [if_neg (by omega)]] at h⟩
                    case round =>
                      obtain ⟨u, hu, rfl, hO⟩ := hrel
                      clear HO
                      by_cases hlu : u < x.c.ps.length
                      · have g1 : (u : Int) < (x.c.ps.length : Int) := by omega
                        have j2 : (i : Int) < (K : Int) := by omega
                        have hzb := HZb.out i
                        have XW := HZc.out i hlt
                        obtain ⟨d0, d1, d2, d3, d4, d5, d6, d7, d8, d9, d10, d11, d12, d13⟩ := akCells hO.p5
                        have x0 := Stp.cell (show Stp W wr from hO.toBelow) XW
                        have HRG := Lib.hid (fun (d : Nat) (os : Array Obj) => hO.below (below_regrown wr d os))
                        have C1 := fun d os => Calls.regrown_of (HLf i _ (HRG.out d os).toBelow)
                        have C2 := fun d os => Calls.regrown_of (HUn i u _ (HRG.out d os).toBelow)
                        have HOn1 := Lib.hid (HOn.out i u)
                        have HXu := Lib.hid (show (fnL x.c.ps.length (fun j => if j < u then lfE (twP x zs K) ws σ (i + 1) j else lfE (twP x zs K) ws σ i j)).getD u 0 = lfE (twP x zs K) ws σ i u by rw [fnL_get _ _ hlu, if_neg (by omega)])
                        obtain ⟨z, hz⟩ : ∃ z, z = zs.getD i 0 := ⟨_, rfl⟩
                        rw [← hz] at hzb XW x0 C1 C2 HOn1
                        generalize lfOf x.c z.toNat = LF at *
                        have q2 : IntKind.i64.wrap z = z := IntWalk.i64_in _ (by omega)
                        have HZ := Lib.hid hz
                        generalize hbb : onB x.c.ps LF (u : Int) = bb at *
                        clear hO hz hbb
                        cases bb with
                        | true =>
                          have hon := HOn1.out.1 rfl
                          go_wp2_with fail
                          have k0 := cell_regrown d0
                          have k1 := cell_regrown d1
                          have k2 := cell_regrown d2
                          have k3 := cell_regrown d3
                          have k4 := cell_regrown d4
                          have k5 := cell_regrown d5
                          have k6 := cell_regrown d6
                          have k7 := cell_regrown d7
                          have k8 := cell_regrown x0
                          clear x0 d0 d1 d2 d3 d4 d5 d6 d7 d8 d9 d10 d11 d12 d13
                          try dsimp only [List.append]
                          refine wp_region_quiet_below (by kernel_rfl) (by kernel_rfl) ?_
                          repeat (go_big_quiet_step (first | (go_at_call 41; with_reducible exact C1 _ _) | (go_at_call 25; with_reducible exact C2 _ _)))
                          refine wpQuiet_nil ?_
                          intro _ hw'
                          obtain ⟨⟨dq, osq⟩, hw''⟩ := hw'
                          subst hw''
                          have hO := HRG.out dq osq
                          clear HRG C1 C2 k0 k1 k2 k3 k4 k5 k6 k7 k8
                          generalize Go.Sort.grow (redrawn wr dq) osq = w21 at *
                          have x0 := Stp.cell (show Stp W w21.drew from hO.drew.toBelow) XW
                          have y0 := row_cell hO.drew (fnL_len _ _) u hlu
                          rw [HXu.out, Nat.zero_add] at y0
                          have hst := Own.rowSet1 hO.drew u (by omega) (.int .i64 (lfE (twP x zs K) ws σ (i + 1) u))
                          have ff := hst.2
                          have hb1 := HBd.out u hlu i (by omega)
                          obtain ⟨q, hq⟩ : ∃ q, z % 30 = q := ⟨_, rfl⟩
                          have q1 : z.tmod 30 = q := by rw [← hq]; exact Int.tmod_eq_emod_of_nonneg hzb.1
                          have q0 : 0 ≤ q ∧ q ≤ 29 := by omega
                          have hnx : lfE (twP x zs K) ws σ (i + 1) u = lfE (twP x zs K) ws σ i u - q - 1 := by
                            rw [lfE_on (twP x zs K) ws σ i u Her.out hon]
                            show _ - (zs.getD i 0 % 30 + 1) = _
                            rw [← HZ.out, hq]; omega
                          have HSt := Lib.hid (show Own W NoF [row (.slice (some ⟨gl, 0, none⟩) x.c.ps.length cl9) 3 1 x.c.ps.length (intC (fnL x.c.ps.length (fun j => if j < u + 1 then lfE (twP x zs K) ws σ (i + 1) j else lfE (twP x zs K) ws σ i j))), memA 110 m wz lg, row (.slice (some ⟨gp, 0, none⟩) K cv) 43 1 K (ptC K ga), stars (crewL K fun j => adA (.slice pp x.c.ps.length cp) (.slice pl x.c.ls.length cl) (ga j) ((twP x zs K).q j) (σ j)), blk bo (ovO K ov), blk W.heap.size (akO x (.slice pp x.c.ps.length cp) (.slice pl x.c.ls.length cl) vb va vk)] (w21.drew.setCell ⟨gl, u, none⟩ (.int .i64 (lfE (twP x zs K) ws σ (i + 1) u))) from by
                            have h := hst.1
                            rw [show (intC (fnL x.c.ps.length fun j => if j < u then lfE (twP x zs K) ws σ (i + 1) j else lfE (twP x zs K) ws σ i j)).set u (.int .i64 (lfE (twP x zs K) ws σ (i + 1) u)) = intC (fnL x.c.ps.length fun j => if j < u + 1 then lfE (twP x zs K) ws σ (i + 1) j else lfE (twP x zs K) ws σ i j) from by
                              unfold intC
                              rw [← List.map_set, fnL_set _ _ _ _ hlu]
                              congr 1
                              refine fnL_congr fun j hj => ?_
                              by_cases e : j = u
                              · rw [if_pos e, if_pos (by omega), e]
                              · rw [if_neg e]
                                by_cases e2 : j < u
                                · rw [if_pos e2, if_pos (by omega)]
                                · rw [if_neg e2, if_neg (by omega)]] at h
                            exact h)
                          rw [hnx] at HSt
                          generalize lfE (twP x zs K) ws σ i u = Y at *
                          have q3 : IntKind.i64.wrap (Y - q) = Y - q := IntWalk.i64_in _ (by omega)
                          have q4 : IntKind.i64.wrap (Y - q - 1) = Y - q - 1 := IntWalk.i64_in _ (by omega)
                          clear hO hst hnx hb1 hq
                          go_wp2_with fail
                          go_region
                          all_goals
                            go_wp2_with fail
                            go_roundw
                            case rel => exact ⟨u + 1, by omega, by go_num, HSt.out⟩
                            case measure => simp [intOf]; omega
                        | false =>
                          have hoff : ¬ On (twP x zs K).c.ps ((twP x zs K).vv i) u := fun hh => absurd (HOn1.out.2 hh) (by decide)
                          have HSame := Lib.hid (show (fnL x.c.ps.length fun j => if j < u then lfE (twP x zs K) ws σ (i + 1) j else lfE (twP x zs K) ws σ i j) = (fnL x.c.ps.length fun j => if j < u + 1 then lfE (twP x zs K) ws σ (i + 1) j else lfE (twP x zs K) ws σ i j) from fnL_congr fun j hj => by
                            by_cases e : j = u
                            · rw [if_neg (by omega), if_pos (by omega), e, lfE_off (twP x zs K) ws σ i u hoff]
                            · by_cases e2 : j < u
                              · rw [if_pos e2, if_pos (by omega)]
                              · rw [if_neg e2, if_neg (by omega)])
                          clear hoff
                          go_wp2_with fail
                          have k0 := cell_regrown d0
                          have k1 := cell_regrown d1
                          have k2 := cell_regrown d2
                          have k3 := cell_regrown d3
                          have k4 := cell_regrown d4
                          have k5 := cell_regrown d5
                          have k6 := cell_regrown d6
                          have k7 := cell_regrown d7
                          have k8 := cell_regrown x0
                          clear x0 d0 d1 d2 d3 d4 d5 d6 d7 d8 d9 d10 d11 d12 d13
                          try dsimp only [List.append]
                          refine wp_region_quiet_below (by kernel_rfl) (by kernel_rfl) ?_
                          repeat (go_big_quiet_step (first | (go_at_call 41; with_reducible exact C1 _ _) | (go_at_call 25; with_reducible exact C2 _ _)))
                          refine wpQuiet_nil ?_
                          intro _ hw'
                          obtain ⟨⟨dq, osq⟩, hw''⟩ := hw'
                          subst hw''
                          have hO := HRG.out dq osq
                          rw [HSame.out] at hO
                          have HO2 := Lib.hid hO
                          clear hO HRG C1 C2 k0 k1 k2 k3 k4 k5 k6 k7 k8
                          go_wp2_with fail
                          go_roundw
                          case rel => exact ⟨u + 1, by omega, by go_num, HO2.out⟩
                          case measure => simp [intOf]; omega
                      · obtain rfl : u = x.c.ps.length := by omega
                        have hO5 : Own W NoF [row (.slice (some ⟨gl, 0, none⟩) x.c.ps.length cl9) 3 1 x.c.ps.length (intC (fnL x.c.ps.length (lfE (twP x zs K) ws σ (i + 1)))), memA 110 m wz lg, row (.slice (some ⟨gp, 0, none⟩) K cv) 43 1 K (ptC K ga), stars (crewL K fun j => adA (.slice pp x.c.ps.length cp) (.slice pl x.c.ls.length cl) (ga j) ((twP x zs K).q j) (σ j)), blk bo (ovO K ov), blk W.heap.size (akO x (.slice pp x.c.ps.length cp) (.slice pl x.c.ls.length cl) vb va vk)] wr := by
                          have h := hO
                          rwa [fnL_congr (X := fun j => if j < x.c.ps.length then lfE (twP x zs K) ws σ (i + 1) j else lfE (twP x zs K) ws σ i j) (Y := lfE (twP x zs K) ws σ (i + 1)) (fun j hj => if_pos hj)] at h
                        have HO := Lib.hid hO5
                        clear hO hO5 hlu hu
                        go_wp2_with fail
                        go_loopw [18] (fun v18 wr => ∃ k : Nat, k ≤ i ∧ v18 = .int .i64 k ∧ Own W NoF [row (.slice (some ⟨gl, 0, none⟩) x.c.ps.length cl9) 3 1 x.c.ps.length (intC (fnL x.c.ps.length (lfE (twP x zs K) ws σ (i + 1)))), memA 110 m wz lg, row (.slice (some ⟨gp, 0, none⟩) K cv) 43 1 K (ptC K ga), stars (crewL K fun j => adA (.slice pp x.c.ps.length cp) (.slice pl x.c.ls.length cl) (ga j) ((twP x zs K).q j) (σ j)), blk bo (ovO K ov), blk W.heap.size (akO x (.slice pp x.c.ps.length cp) (.slice pl x.c.ls.length cl) vb va vk)] wr) (fun v18 _ => i - (intOf v18).toNat)
                        case atStart => exact ⟨0, Nat.zero_le _, rfl, HO.out⟩
                        case round =>
                          obtain ⟨k, hk, rfl, hO⟩ := hrel
                          clear HO
                          by_cases hlk : k < i
                          · have g1 : (k : Int) < (i : Int) := by omega
                            have g2 : (k : Int) < (K : Int) := by omega
                            have g3 : (i : Int) < (K : Int) := by omega
                            have hkK : k < K := by omega
                            have p1 := ptr_in hO.p2 hkK
                            have p2 := ptr_in hO.p2 hlt
                            have HRG := Lib.hid (fun (d : Nat) (os : Array Obj) => hO.below (below_regrown wr d os))
                            have C1 := fun d os => Calls.regrown_of (HAn k hkK _ _ (HRG.out d os))
                            have C2 := fun d os => Calls.regrown_of (HAn i hlt _ _ (HRG.out d os))
                            have hne := fun h => HE.out.uniq k i hkK hlt (by omega) h Her.out
                            rw [Her.out] at C2
                            generalize (σ i).an = AI at *
                            generalize (σ i).nd = NI at *
                            generalize (σ k).an = AK at *
                            generalize (σ k).nd = NK at *
                            generalize (σ k).er = EK at *
                            have qa := fun w => ans12E EK AK false NK w
                            have qb := fun w => ans12N EK AK false NK w
                            have qc := fun w => ans12N 0 AI false NI w
                            clear hO
                            by_cases hek : EK = 0
                            · subst hek
                              have hne := hne rfl
                              have gn : (AK == AI) = false := by rw [beq_eq_false_iff_ne]; exact hne
                              clear hne
                              go_wp2_with fail
                              have k8 := cell_regrown p1
                              have k9 := cell_regrown p2
                              clear p1 p2
                              try dsimp only [List.append]
                              refine wp_region_quiet_below (by kernel_rfl) (by kernel_rfl) ?_
                              repeat (go_big_quiet_step (first | (go_at_call 19; with_reducible exact C1 _ _) | (go_at_call 19; with_reducible exact C2 _ _)))
                              refine wpQuiet_nil ?_
                              intro _ hw'
                              obtain ⟨⟨dq, osq⟩, hw''⟩ := hw'
                              subst hw''
                              have HO2 := Lib.hid (HRG.out dq osq)
                              clear HRG C1 C2 k8 k9
                              go_wp2_with fail
                              go_roundw
                              case rel => exact ⟨k + 1, by omega, by go_num, HO2.out⟩
                              case measure => simp [intOf]; omega
                            · have gn : (EK == 0) = false := by rw [beq_eq_false_iff_ne]; exact hek
                              clear hne
                              go_wp2_with fail
                              have k8 := cell_regrown p1
                              have k9 := cell_regrown p2
                              clear p1 p2
                              try dsimp only [List.append]
                              refine wp_region_quiet_below (by kernel_rfl) (by kernel_rfl) ?_
                              repeat (go_big_quiet_step (first | (go_at_call 19; with_reducible exact C1 _ _) | (go_at_call 19; with_reducible exact C2 _ _)))
                              refine wpQuiet_nil ?_
                              intro _ hw'
                              obtain ⟨⟨dq, osq⟩, hw''⟩ := hw'
                              subst hw''
                              have HO2 := Lib.hid (HRG.out dq osq)
                              clear HRG C1 C2 k8 k9
                              go_wp2_with fail
                              go_roundw
                              case rel => exact ⟨k + 1, by omega, by go_num, HO2.out⟩
                              case measure => simp [intOf]; omega
                          · obtain rfl : k = i := by omega
                            have HO := Lib.hid hO
                            clear hO
                            go_wp2_with fail
                            go_roundw
                            case rel => exact ⟨k + 1, by omega, by go_num, HO.out⟩
                            case measure => simp [intOf]; omega
                  · have gne : ((σ i).er != 0) = true := by rw [bne_iff_ne]; exact her.1
                    have hke := Lib.hid (lfE_keep (twP x zs K) ws σ i her.1)
                    generalize (σ i).er = ER at *
                    generalize (σ i).an = AN at *
                    generalize (σ i).nd = ND at *
                    clear her
                    go_wp2_with fail
                    refine HA1.out.mono ?_
                    rintro e w20 ⟨rfl, hB⟩
                    have HO := Lib.hid (HO.out.below hB)
                    clear HA1 hB o0 p0
                    go_wp2_with fail
                    go_roundw
                    case rel => exact ⟨i + 1, by omega, by go_num, by rw [hke.out]; exact HO.out⟩
                    case measure => simp [intOf]; omega
                · obtain rfl : i = K := by omega
                  clear hlt hi
                  have HO := Lib.hid hO
                  clear hO
                  go_wp2_with fail
                  go_loopw [19] (fun v19 wr => ∃ u : Nat, u ≤ x.c.ps.length ∧ v19 = .int .i64 u ∧ Own W NoF [row (.slice (some ⟨gl, 0, none⟩) x.c.ps.length cl9) 3 1 x.c.ps.length (intC (fnL x.c.ps.length (lfE (twP x zs i) ws σ i))), memA 110 m wz lg, row (.slice (some ⟨gp, 0, none⟩) i cv) 43 1 i (ptC i ga), stars (crewL i fun j => adA (.slice pp x.c.ps.length cp) (.slice pl x.c.ls.length cl) (ga j) ((twP x zs i).q j) (σ j)), blk bo (ovO i ov), blk W.heap.size (akO x (.slice pp x.c.ps.length cp) (.slice pl x.c.ls.length cl) vb va vk)] wr) (fun v19 _ => x.c.ps.length - (intOf v19).toNat)
                  case atStart => exact ⟨0, Nat.zero_le _, rfl, HO.out⟩
                  case round =>
                    obtain ⟨u, hu, rfl, hO⟩ := hrel
                    clear HO
                    by_cases hlu : u < x.c.ps.length
                    · have g1 : (u : Int) < (x.c.ps.length : Int) := by omega
                      obtain ⟨d0, d1, d2, d3, d4, d5, d6, d7, d8, d9, d10, d11, d12, d13⟩ := akCells hO.p5
                      have y0 := row_cell hO (fnL_len _ _) u hlu
                      rw [fnL_get _ _ hlu, Nat.zero_add] at y0
                      have hl := HE.out.left u hlu
                      have hp0 := HE.out.pos u hlu
                      have e1 : lfE (twP x zs i) ws σ i u = leftU x.c u wz := hl.symm
                      rw [e1] at y0
                      have hp0 : 0 ≤ leftU x.c u wz := hp0
                      have HRG := Lib.hid (fun (d : Nat) (os : Array Obj) => hO.below (below_regrown wr d os))
                      have C1 := fun d os => Calls.regrown_of (tw_left (pp := pp) (cp := cp) (pl := pl) (cl := cl) Hr.out u hlu (by decide) (HE.out.node u hlu) HE.out.len (HRG.out d os).swap)
                      generalize leftU x.c u wz = LU at *
                      have g2 : (LU != LU) = false := by simp
                      have g3 : decide (LU < 0) = false := by simp; omega
                      clear hO hl e1
                      go_wp2_with fail
                      have k0 := cell_regrown d0
                      have k1 := cell_regrown d1
                      have k2 := cell_regrown d2
                      have k3 := cell_regrown d3
                      have k4 := cell_regrown d4
                      have k5 := cell_regrown d5
                      have k6 := cell_regrown d6
                      have k7 := cell_regrown d7
                      have k8 := cell_regrown y0
                      clear y0 d0 d1 d2 d3 d4 d5 d6 d7 d8 d9 d10 d11 d12 d13
                      try dsimp only [List.append]
                      refine wp_region_quiet_below (by kernel_rfl) (by kernel_rfl) ?_
                      repeat (go_big_quiet_step ((go_at_call 40; with_reducible exact C1 _ _)))
                      refine wpQuiet_nil ?_
                      intro _ hw'
                      obtain ⟨⟨dq, osq⟩, hw''⟩ := hw'
                      subst hw''
                      have HO2 := Lib.hid (HRG.out dq osq)
                      clear HRG C1 k0 k1 k2 k3 k4 k5 k6 k7 k8
                      go_wp2_with fail
                      go_roundw
                      case rel => exact ⟨u + 1, by omega, by go_num, HO2.out⟩
                      case measure => simp [intOf]; omega
                    · obtain rfl : u = x.c.ps.length := by omega
                      have HO := Lib.hid hO
                      clear hO
                      go_wp2_with fail
                      go_ret
                      exact ⟨rfl, HO.out.toBelow⟩
theorem AdmitTwo_calls (W : World) (x : Ak) (vp vl vb va vk : Value) (hwd : Wide x.c) (hwf : x.Wf) (hp : IntsAt W .i64 vp x.c.ps) (hl : IntsAt W .i64 vl x.c.ls) (hb : BlsAt W vb x.bs) (ha : IntsAt W .u32 va x.av) (hk : PksAt W vk x.l)
    (vz : Value) (zs : List Int) (zl : zs.length ≤ maxLen) (zw : ∀ n ∈ zs, (Lit.int .u16 n).wf = true) (zi : IntsAt W .u16 vz zs) (vu : Value) (us : List Int) (ul : us.length ≤ maxLen) (uw : ∀ n ∈ us, (Lit.int .u8 n).wf = true) (ui : IntsAt W .u8 vu us) :
    Calls Tryz.prog 7 #[akV x vp vl vb va vk, vz, vu] W fun e w' => e = .returned (.bool true) ∧ Below W.heap.size W w' := by
  obtain ⟨pu, cu, rfl⟩ := ui.slice
  obtain ⟨pz, cz, rfl⟩ := zi.slice
  unfold maxLen at ul zl
  by_cases hg : GoodA x
  · by_cases h0 : zs.length = 0
    · exact AdmitTwo_k0 W x ⟨hwd, hwf, hp, hl, hb, ha, hk⟩ hg _ _ _ _ _ _ h0
    · by_cases h4 : zs.length ≤ 4
      · by_cases h2 : us.length ≤ 300
        · obtain ⟨bz, oz, c, he, hc⟩ := zi.at (by omega)
          injection he with he _ hc2
          subst he hc2
          exact AdmitTwo_main W x ⟨hwd, hwf, hp, hl, hb, ha, hk⟩ hg zs zs.length bz oz _ us us.length pu cu (by omega) h4 h2 (Lib.hid hc) (Lib.hid (getD_bd _ _ (by decide) (by decide) fun n hn => law_wf (zw n hn))) (Lib.hid fun h => ui.at h) (Lib.hid (getD_bd _ _ (by decide) (by decide) fun n hn => law_wf (uw n hn)))
        · exact AdmitTwo_n300 W x ⟨hwd, hwf, hp, hl, hb, ha, hk⟩ hg _ _ _ _ _ _ (by omega) h4 (by omega) (by omega)
      · exact AdmitTwo_k4 W x ⟨hwd, hwf, hp, hl, hb, ha, hk⟩ hg _ _ _ _ _ _ (by omega) (by omega)
  · exact AdmitTwo_bad W x ⟨hwd, hwf, hp, hl, hb, ha, hk⟩ hg _ _ _ _ _ _
end Go.Proofs.YtjohngpbggendaaGreat
