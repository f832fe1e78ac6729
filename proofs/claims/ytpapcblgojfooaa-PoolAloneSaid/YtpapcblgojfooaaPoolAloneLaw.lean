/- PoolAlone. Written by tools/gen_pool*.py. -/
import Derived.Test.YtpapcblgojfooaaPoolHead
namespace Go.Proofs.Ytpapcblgojfooaa
open Go.ChangeShapes Go.WideShapes Go.ChangeAt Go.RowKit Go.Shelf
set_option linter.unusedVariables false
set_option linter.unusedSimpArgs false
set_option maxRecDepth 100000
variable {ws : List Int}
theorem ans8A (e n : Int) (x : Bool) (q : Int) (w : World) : (Instr.field 51 (.agg #[.int .i64 e, .int .i64 n, .bool x, .int .i64 q]) 0).run Try.prog w = .ok (.int .i64 e) w := by kernel_rfl
theorem PA_play {x : Po} {g : Nat} {nd : Int} (hr : x.c.Rt) (h : PL x 4294967295 ws) : ∃ n s' ws' lg', ∃ jl ja : Nat, playF (poolM g nd x.p 4294967295) [] 300 0 s0P ws [] = (n, true, s', ws', lg') ∧ 2 ≤ n ∧ n ≤ 5 ∧ lim x.c x.v + 2 + x.s = (jl : Int) ∧ lim x.c x.v + 1 = (ja : Int) ∧ jl < ws.length ∧ ja < ws.length ∧ PL x 5000000000 ws' ∧ ws'.length = ws.length ∧
    ((s'.r = true ∧ ws.getD jl 0 < x.k ∧ ws.getD ja 0 < x.k ∧ ws' = ws) ∨ (s'.r = false ∧ (ws.getD jl 0 < x.k → ¬ ws.getD ja 0 < x.k) ∧ leftP (x.b + 1) (lwN (x.b + 1)) x.S ws' = leftP (x.b + 1) (lwN (x.b + 1)) x.S ws - x.k)) := by
  obtain ⟨n, s', ws', lg', e, -, hA⟩ := pool_alone (M := poolM g nd x.p 4294967295) rfl (Po.p_ok hr) (by decide) (h.pw hr) 300 (by decide) []
  obtain ⟨n2, q2, s2, ws2, lg2, e2, -, -, hE⟩ := pool_plays (g := g) (nd := nd) hr h [] (fun _ _ h => h) 300
  rw [e] at e2
  injection e2 with i1 i2
  injection i2 with i2 i3
  injection i3 with i3 i4
  injection i4 with i4 i5
  subst i1; subst i2; subst i3; subst i4; subst i5
  have hs := Po.s_bd hr
  have hS := Po.S_eq hr
  have hbe := Po.b_eq hr
  have hin := Po.b_in hr
  have hlen := h.len
  unfold Po.S at hS
  refine ⟨n, s', ws', lg', x.p.le, x.p.av, e, hA.n2, hA.n5, ?_, ?_, ?_, ?_, (hE rfl).w, hA.len, ?_⟩
  · rw [hbe]; simp only [Po.p]; omega
  · rw [hbe]; simp only [Po.p]; omega
  · simp only [Po.p]; omega
  · simp only [Po.p]; omega
  · cases hb : s'.r with
    | true => exact Or.inl ⟨rfl, (hA.refused.1 hb).1, (hA.refused.1 hb).2, hA.same hb⟩
    | false =>
      refine Or.inr ⟨rfl, fun h1 h2 => ?_, ?_⟩
      · have := hA.refused.2 ⟨h1, h2⟩
        rw [hb] at this; cases this
      · have ht := hA.took hb
        have hl : x.p.le = lwN (x.b + 1) x.s.toNat := by show x.b + 2 + x.s.toNat = x.b + 1 + 1 + x.s.toNat; omega
        have ha : x.p.av = x.b + 1 := rfl
        have hk : x.p.n = x.k := rfl
        rw [hl, ha, hk] at ht
        unfold leftP
        rw [sK_one (f := fun i => ws'.getD (lwN (x.b + 1) i) 0) (g := fun i => ws.getD (lwN (x.b + 1) i) 0) x.s.toNat x.S (fun j hj hne => hA.others _ (by simp only [lwN, Po.p]; omega) (by simp only [lwN, Po.p]; omega)), if_pos (by unfold Po.S; omega)]
        first | omega | (simp only; omega)
theorem PoolAlone_bad (W : World) (x : Po) {vp vl ve vk : Value} (H : PoAt W x vp vl ve vk) (hg : ¬ GoodP x) :
    Calls Try.prog 5 #[poV x vp vl ve vk] W fun e w' => e = .returned (.bool true) ∧ Below W.heap.size W w' := by
  obtain ⟨pp, cp, rfl⟩ := H.p.slice
  obtain ⟨pl, cl, rfl⟩ := H.l.slice
  obtain ⟨pk, ck, rfl⟩ := PksAt.slice H.k
  have h0 := (Own.start W).new (poO x (.slice pp x.c.ps.length cp) (.slice pl x.c.ls.length cl) ve (.slice pk x.l.length ck))
  have Hh := Lib.hid (head8_any h0)
  have HG := fun w' (hb : Stp W w') => Lib.hid (pGood_no (H.stp hb) hg)
  unfold poV at HG ⊢
  clear h0 H hg
  go_enter Try.func5, Try.ntmps5
  go_wp2_with fail
  refine Hh.out.mono ?_
  rintro e w1 ⟨rfl, hO⟩
  obtain ⟨d0, d1, d2, d3, d4, d5, d6, d7, d8, d9, d10, d11, d12, d13⟩ := poCells hO
  go_wp2_with fail
  refine (HG _ hO.toBelow).out.mono ?_
  rintro e w2 ⟨rfl, hB⟩
  have hO := hO.below hB
  clear hB HG Hh d0 d1 d2 d3 d4 d5 d6 d7 d8 d9 d10 d11 d12 d13
  have HB := Lib.hid hO.toBelow
  clear hO
  go_wp2_with fail
  go_ret
  exact ⟨rfl, HB.out⟩
set_option maxHeartbeats 20000000 in
theorem PoolAlone_main (W : World) (x : Po) {vp vl ve vk : Value} (H : PoAt W x vp vl ve vk) (hg : GoodP x) :
    Calls Try.prog 5 #[poV x vp vl ve vk] W fun e w' => e = .returned (.bool true) ∧ Below W.heap.size W w' := by
  obtain ⟨pp, cp, rfl⟩ := H.p.slice
  obtain ⟨pl, cl2, rfl⟩ := H.l.slice
  obtain ⟨pk, ck, rfl⟩ := PksAt.slice H.k
  have h0 := (Own.start W).new (poO x (.slice pp x.c.ps.length cp) (.slice pl x.c.ls.length cl2) ve (.slice pk x.l.length ck))
  have Hh := Lib.hid (head8_any h0)
  have hr := hg.rt
  have HG := fun w' (hb : Stp W w') => Lib.hid (pGood_yes (H.stp hb) hg)
  have HOf := fun w' (hb : Stp W w') => Lib.hid (pOf_any (H.stp hb) hr)
  have HWd := fun w L (h : Own W NoF L w) => Lib.hid (pWords_any H hg h)
  have HPk := fun w L (h : Own W NoF L w) => Lib.hid (pPokes_any H hg h)
  have hOk := poW_ok hr H.wf
  have hin := Po.b_in hr
  have hvb := Po.v_bd hr
  have hsb := Po.s_bd hr
  have hkb := Po.k_bd (x := x)
  have HSe := Lib.hid (Po.S_eq hr)
  have hn1 := hr.n1
  have hbe := Po.b_eq hr
  have hst := hr.sm
  have hst8 := hr.sm.2
  have Hr := Lib.hid hr
  have hp0 : (x.p.av : Int) = lim x.c x.v + 1 := by rw [hbe]; simp only [Po.p]; omega
  have hp1 : (x.p.le : Int) = lim x.c x.v + 2 + x.s := by rw [hbe]; simp only [Po.p]; omega
  have HNw := fun w L (h : Own W NoF L w) => Lib.hid (poolNew_any (w0 := W) (F0 := NoF) (L := L) (w := w) (pp := pp) (np := x.c.ps.length) (cp := cp) (pl := pl) (nl := x.c.ls.length) (cl := cl2) x.c hst x.v x.k x.s hvb.1 (by omega) hsb.1 (by omega) x.p hp0 hp1 rfl rfl h)
  clear hbe hp0 hp1
  unfold poV at HG HOf HWd HPk ⊢
  clear h0 H hg hr
  go_enter Try.func5, Try.ntmps5
  go_wp2_with fail
  refine Hh.out.mono ?_
  rintro e w1 ⟨rfl, hO⟩
  obtain ⟨d0, d1, d2, d3, d4, d5, d6, d7, d8, d9, d10, d11, d12, d13⟩ := poCells hO
  go_wp2_with fail
  refine (HG _ hO.toBelow).out.mono ?_
  rintro e w2 ⟨rfl, hB⟩
  have hO := hO.below hB
  clear hB HG Hh d0 d1 d2 d3 d4 d5 d6 d7 d8 d9 d10 d11 d12 d13
  obtain ⟨d0, d1, d2, d3, d4, d5, d6, d7, d8, d9, d10, d11, d12, d13⟩ := poCells hO
  go_wp2_with fail
  refine (HOf _ hO.toBelow).out.mono ?_
  rintro e w3 ⟨rfl, hB⟩
  have hO := hO.below hB
  clear hB HOf d0 d1 d2 d3 d4 d5 d6 d7 d8 d9 d10 d11 d12 d13
  obtain ⟨d0, d1, d2, d3, d4, d5, d6, d7, d8, d9, d10, d11, d12, d13⟩ := poCells hO
  go_wp2_with fail
  refine (HWd _ _ hO).out.mono ?_
  rintro e w4 ⟨vw, rfl, hO⟩
  clear HWd d0 d1 d2 d3 d4 d5 d6 d7 d8 d9 d10 d11 d12 d13
  obtain ⟨ws, hws⟩ : ∃ ws, ws = poW x (poR x) := ⟨_, rfl⟩
  rw [← hws] at hO hOk
  have hlen := hOk.len
  rw [← hlen] at hO
  clear hws
  have HLd := Lib.hid (pLaid_any (by omega) (by omega) hO)
  clear hO
  go_wp2_with fail
  refine HLd.out.mono ?_
  rintro e w5 ⟨m, rfl, hO⟩
  clear HLd
  obtain ⟨d0, d1, d2, d3, d4, d5, d6, d7, d8, d9, d10, d11, d12, d13⟩ := poCells hO.p2
  have HN := HNw _ _ hO
  clear hO
  go_wp2_with fail
  refine HN.out.mono ?_
  rintro e w6 ⟨g, rfl, hO⟩
  clear HN d0 d1 d2 d3 d4 d5 d6 d7 d8 d9 d10 d11 d12 d13
  have Hlen := Lib.hid hlen
  have hPl := Lib.hid (Pool_play g m x.v x.p 4294967295 (by decide) _ s0P ws [] [] 300 (by decide) (pksAt_nil _) (by decide) (Po.p_ok Hr.out) (hOk.pw Hr.out) (s0P_ok _ _) (by decide) (fun _ _ h => h) hO)
  obtain ⟨n, s', ws', lg', jl, ja, eP, hn2, hn5, hjl, hja, hl0, ha0, hPL, hlen2, hcase⟩ := PA_play (g := g) (nd := x.v) Hr.out hOk
  rw [show (300 : Int).toNat = 300 from rfl, eP] at hPl
  have HLw := Lib.hid (hOk.left Hr.out (by decide))
  have HLw2 := Lib.hid (hPL.left Hr.out (by decide))
  have hin := Po.b_in Hr.out
  have Hb1 := Lib.hid (show lim x.c x.v + 1 = ((x.b + 1 : Nat) : Int) by rw [Po.b_eq Hr.out]; omega)
  have HS1 := Lib.hid (Po.S_eq Hr.out).1
  have hS8 := (Po.S_eq Hr.out).2
  have hSS : x.S = x.c.st.toNat := rfl
  obtain ⟨y, hy⟩ : ∃ y, y = leftP (x.b + 1) (lwN (x.b + 1)) x.S ws := ⟨_, rfl⟩
  have hyb := leftP_bd HLw.out x.S (Nat.le_refl _)
  rw [← hy] at hyb hcase
  have HY := Lib.hid hy.symm
  have HLe0 := fun w => rLease_q (pp := pp) (np := x.c.ps.length) (cp := cp) (pl := pl) (nl := x.c.ls.length) (cl := cl2) x.c hst x.v hvb.1 (by omega) x.s hsb.1 (by omega) w
  have HAv0 := fun w => rAvail_q (pp := pp) (np := x.c.ps.length) (cp := cp) (pl := pl) (nl := x.c.ls.length) (cl := cl2) x.c hst x.v hvb.1 (by omega) w
  rw [hjl] at HLe0
  rw [hja] at HAv0
  have HLe := fun w => Lib.hid (HLe0 w)
  have HAv := fun w => Lib.hid (HAv0 w)
  have hlenB : x.b + 1 + x.S < ws.length ∧ ws.length ≤ 400 := by omega
  have hlenC : x.b + 1 + x.S < ws'.length ∧ ws'.length ≤ 400 := by omega
  clear hy hO eP hjl hja HLe0 HAv0 HPk hlen hlen2 hSS
  go_wp2_with fail
  refine hPl.out.mono ?_
  rintro e w8 ⟨rfl, hO⟩
  obtain ⟨pw, cw, rfl⟩ := row_slice (show Own W NoF (row vw 3 1 ws.length (intC ws) :: poolA g x.v x.p s' :: memA 94 m ws' lg' :: [blk W.heap.size (poO x (.slice pp x.c.ps.length cp) (.slice pl x.c.ls.length cl2) ve (.slice pk x.l.length ck))]) w8 from hO.p2)
  obtain ⟨bw, ow, cw2, hv, hc⟩ := (show Own W NoF (row (.slice pw ws.length cw) 3 1 ws.length (intC ws) :: poolA g x.v x.p s' :: memA 94 m ws' lg' :: [blk W.heap.size (poO x (.slice pp x.c.ps.length cp) (.slice pl x.c.ls.length cl2) ve (.slice pk x.l.length ck))]) w8 from hO.p2).intsAt.at (by omega)
  injection hv with hv hvq hv2
  clear hvq
  subst hv hv2
  have hO : Own W NoF (poolA g x.v x.p s' :: memA 94 m ws' lg' :: row (.slice (some ⟨bw, ow, none⟩) ws.length cw) 3 1 ws.length (intC ws) :: [blk W.heap.size (poO x (.slice pp x.c.ps.length cp) (.slice pl x.c.ls.length cl2) ve (.slice pk x.l.length ck))]) w8 := hO
  have cl := hc jl hl0
  have ca := hc ja ha0
  obtain ⟨xl, hxl⟩ : ∃ y, y = ws.getD jl 0 := ⟨_, rfl⟩
  obtain ⟨xa, hxa⟩ : ∃ y, y = ws.getD ja 0 := ⟨_, rfl⟩
  rw [← hxl, ← hxa] at hcase
  rw [← hxl] at cl
  rw [← hxa] at ca
  have i1 : (jl : Int) < ws.length := by omega
  have i2 : (ja : Int) < ws.length := by omega
  have j1 : decide ((jl : Int) < 0) = false := by simp
  have j2 : decide ((ws.length : Int) ≤ jl) = false := by simp; omega
  have j3 : decide ((ja : Int) < 0) = false := by simp
  have j4 : decide ((ws.length : Int) ≤ ja) = false := by simp; omega
  have fE := ans8A
  have hn2i : (2 : Int) ≤ (n : Int) := by omega
  have hn5i : (n : Int) ≤ 5 := by omega
  clear hc hxl hxa hPl
  obtain ⟨d0, d1, d2, d3, d4, d5, d6, d7, d8, d9, d10, d11, d12, d13⟩ := poCells hO.p3
  rcases hcase with ⟨hr0, h1, h2, hsame⟩ | ⟨hr0, h2, hL⟩
  · have ER := Lib.hid (show erP s' = 4 by unfold erP; rw [hr0]; rfl)
    subst hsame
    clear hr0 HLw2
    go_wp2_with fail
    refine (HLe _).out.mono ?_
    rintro e w9 ⟨rfl, hB⟩
    have hO := hO.below hB
    have cl := Stp.cell hB cl
    have ca := Stp.cell hB ca
    clear hB d0 d1 d2 d3 d4 d5 d6 d7 d8 d9 d10 d11 d12 d13
    obtain ⟨d0, d1, d2, d3, d4, d5, d6, d7, d8, d9, d10, d11, d12, d13⟩ := poCells hO.p3
    go_wp2_with fail
    refine (HAv _).out.mono ?_
    rintro e w10 ⟨rfl, hB⟩
    have hO := hO.below hB
    have cl := Stp.cell hB cl
    have ca := Stp.cell hB ca
    clear hB d0 d1 d2 d3 d4 d5 d6 d7 d8 d9 d10 d11 d12 d13
    obtain ⟨d0, d1, d2, d3, d4, d5, d6, d7, d8, d9, d10, d11, d12, d13⟩ := poCells hO.p3
    have HLf := Lib.hid (rLeft_any (pp := pp) (np := x.c.ps.length) (cp := cp) (pl := pl) (nl := x.c.ls.length) (cl := cl2) x.c hst x.v hvb.1 (by omega) (x.b + 1) x.S Hb1.out HS1.out (by omega) (by omega) HLw.out hO.p2.intsAt)
    rw [HY.out] at HLf
    clear HLe HAv
    go_wp2_with fail
    refine HLf.out.mono ?_
    rintro e w11 ⟨rfl, hB⟩
    have hO := hO.below hB
    have cl := Stp.cell hB cl
    have ca := Stp.cell hB ca
    clear hB d0 d1 d2 d3 d4 d5 d6 d7 d8 d9 d10 d11 d12 d13
    obtain ⟨d0, d1, d2, d3, d4, d5, d6, d7, d8, d9, d10, d11, d12, d13⟩ := poCells hO.p3
    have HA := Lib.hid (poolAns_any hO)
    unfold ansV at HA
    rw [ER.out] at HA
    clear HLf
    go_wp2_with fail
    refine HA.out.mono ?_
    rintro e w12 ⟨rfl, hB⟩
    have hO := hO.below hB
    have cl := Stp.cell hB cl
    have ca := Stp.cell hB ca
    clear hB d0 d1 d2 d3 d4 d5 d6 d7 d8 d9 d10 d11 d12 d13
    obtain ⟨d0, d1, d2, d3, d4, d5, d6, d7, d8, d9, d10, d11, d12, d13⟩ := poCells hO.p3
    clear HA
    have HWs := Lib.hid (Words_b (by omega) hO.swap)
    have HO := Lib.hid hO
    clear hO
    go_wp2_with fail
    refine HWs.out.mono ?_
    rintro e w13 ⟨vu, rfl, hA⟩
    have HSi := Lib.hid (SameInts_yes hA.intsAt (HO.out.p2.intsAt.below hA.toBelow) (by omega))
    have HB := Lib.hid (Stp.trans HO.out.toBelow hA.toBelow)
    clear hA HWs HO d0 d1 d2 d3 d4 d5 d6 d7 d8 d9 d10 d11 d12 d13 cl ca
    go_wp2_with fail
    refine HSi.out.mono ?_
    rintro e w14 ⟨rfl, hD⟩
    have HB2 := Lib.hid (Stp.trans HB.out hD.below)
    clear hD HSi HB
    go_wp2_with fail
    go_ret
    exact ⟨rfl, HB2.out⟩
  · have ER := Lib.hid (show erP s' = 0 by unfold erP; rw [hr0]; rfl)
    have HY2 := Lib.hid hL
    clear hr0 hL
    by_cases h1 : xl < x.k
    · have h3 := h2 h1
      clear h2
      go_wp2_with fail
      refine (HLe _).out.mono ?_
      rintro e w9 ⟨rfl, hB⟩
      have hO := hO.below hB
      have cl := Stp.cell hB cl
      have ca := Stp.cell hB ca
      clear hB d0 d1 d2 d3 d4 d5 d6 d7 d8 d9 d10 d11 d12 d13
      obtain ⟨d0, d1, d2, d3, d4, d5, d6, d7, d8, d9, d10, d11, d12, d13⟩ := poCells hO.p3
      go_wp2_with fail
      refine (HAv _).out.mono ?_
      rintro e w10 ⟨rfl, hB⟩
      have hO := hO.below hB
      have cl := Stp.cell hB cl
      have ca := Stp.cell hB ca
      clear hB d0 d1 d2 d3 d4 d5 d6 d7 d8 d9 d10 d11 d12 d13
      obtain ⟨d0, d1, d2, d3, d4, d5, d6, d7, d8, d9, d10, d11, d12, d13⟩ := poCells hO.p3
      have HLf := Lib.hid (rLeft_any (pp := pp) (np := x.c.ps.length) (cp := cp) (pl := pl) (nl := x.c.ls.length) (cl := cl2) x.c hst x.v hvb.1 (by omega) (x.b + 1) x.S Hb1.out HS1.out (by omega) (by omega) HLw.out hO.p2.intsAt)
      rw [HY.out] at HLf
      clear HLe HAv
      go_wp2_with fail
      refine HLf.out.mono ?_
      rintro e w11 ⟨rfl, hB⟩
      have hO := hO.below hB
      have cl := Stp.cell hB cl
      have ca := Stp.cell hB ca
      clear hB d0 d1 d2 d3 d4 d5 d6 d7 d8 d9 d10 d11 d12 d13
      obtain ⟨d0, d1, d2, d3, d4, d5, d6, d7, d8, d9, d10, d11, d12, d13⟩ := poCells hO.p3
      have HA := Lib.hid (poolAns_any hO)
      unfold ansV at HA
      rw [ER.out] at HA
      clear HLf
      go_wp2_with fail
      refine HA.out.mono ?_
      rintro e w12 ⟨rfl, hB⟩
      have hO := hO.below hB
      have cl := Stp.cell hB cl
      have ca := Stp.cell hB ca
      clear hB d0 d1 d2 d3 d4 d5 d6 d7 d8 d9 d10 d11 d12 d13
      obtain ⟨d0, d1, d2, d3, d4, d5, d6, d7, d8, d9, d10, d11, d12, d13⟩ := poCells hO.p3
      clear HA
      have HLg := Lib.hid (Left_any (pp := pp) (np := x.c.ps.length) (cp := cp) (pl := pl) (nl := x.c.ls.length) (cl := cl2) x.c hst x.v hvb.1 (by omega) (x.b + 1) x.S Hb1.out HS1.out (by omega) (by omega) HLw2.out hO.swap)
      rw [HY2.out] at HLg
      have HO := Lib.hid hO.toBelow
      have hwr : IntKind.i64.wrap (y - x.k) = y - x.k := IntWalk.i64_in _ (by omega)
      clear hO
      go_wp2_with fail
      refine HLg.out.mono ?_
      rintro e w13 ⟨rfl, hB⟩
      have HB := Lib.hid (Stp.trans HO.out hB)
      clear HLg HO hB d0 d1 d2 d3 d4 d5 d6 d7 d8 d9 d10 d11 d12 d13 cl ca
      go_wp2_with fail
      go_ret
      exact ⟨rfl, HB.out⟩
    · clear h2
      go_wp2_with fail
      refine (HLe _).out.mono ?_
      rintro e w9 ⟨rfl, hB⟩
      have hO := hO.below hB
      have cl := Stp.cell hB cl
      have ca := Stp.cell hB ca
      clear hB d0 d1 d2 d3 d4 d5 d6 d7 d8 d9 d10 d11 d12 d13
      obtain ⟨d0, d1, d2, d3, d4, d5, d6, d7, d8, d9, d10, d11, d12, d13⟩ := poCells hO.p3
      have HLf := Lib.hid (rLeft_any (pp := pp) (np := x.c.ps.length) (cp := cp) (pl := pl) (nl := x.c.ls.length) (cl := cl2) x.c hst x.v hvb.1 (by omega) (x.b + 1) x.S Hb1.out HS1.out (by omega) (by omega) HLw.out hO.p2.intsAt)
      rw [HY.out] at HLf
      clear HLe HAv
      go_wp2_with fail
      refine HLf.out.mono ?_
      rintro e w11 ⟨rfl, hB⟩
      have hO := hO.below hB
      have cl := Stp.cell hB cl
      have ca := Stp.cell hB ca
      clear hB d0 d1 d2 d3 d4 d5 d6 d7 d8 d9 d10 d11 d12 d13
      obtain ⟨d0, d1, d2, d3, d4, d5, d6, d7, d8, d9, d10, d11, d12, d13⟩ := poCells hO.p3
      have HA := Lib.hid (poolAns_any hO)
      unfold ansV at HA
      rw [ER.out] at HA
      clear HLf
      go_wp2_with fail
      refine HA.out.mono ?_
      rintro e w12 ⟨rfl, hB⟩
      have hO := hO.below hB
      have cl := Stp.cell hB cl
      have ca := Stp.cell hB ca
      clear hB d0 d1 d2 d3 d4 d5 d6 d7 d8 d9 d10 d11 d12 d13
      obtain ⟨d0, d1, d2, d3, d4, d5, d6, d7, d8, d9, d10, d11, d12, d13⟩ := poCells hO.p3
      clear HA
      have HLg := Lib.hid (Left_any (pp := pp) (np := x.c.ps.length) (cp := cp) (pl := pl) (nl := x.c.ls.length) (cl := cl2) x.c hst x.v hvb.1 (by omega) (x.b + 1) x.S Hb1.out HS1.out (by omega) (by omega) HLw2.out hO.swap)
      rw [HY2.out] at HLg
      have HO := Lib.hid hO.toBelow
      have hwr : IntKind.i64.wrap (y - x.k) = y - x.k := IntWalk.i64_in _ (by omega)
      clear hO
      go_wp2_with fail
      refine HLg.out.mono ?_
      rintro e w13 ⟨rfl, hB⟩
      have HB := Lib.hid (Stp.trans HO.out hB)
      clear HLg HO hB d0 d1 d2 d3 d4 d5 d6 d7 d8 d9 d10 d11 d12 d13 cl ca
      go_wp2_with fail
      go_ret
      exact ⟨rfl, HB.out⟩
theorem PoolAlone_calls (W : World) (x : Po) (vp vl ve vk : Value) (hwd : Wide x.c) (hwf : x.Wf) (hp : IntsAt W .i64 vp x.c.ps) (hl : IntsAt W .i64 vl x.c.ls) (he : IntsAt W .u32 ve x.ls) (hk : PksAt W vk x.l) :
    Calls Try.prog 5 #[poV x vp vl ve vk] W fun e w' => e = .returned (.bool true) ∧ Below W.heap.size W w' := by
  by_cases hg : GoodP x
  · exact PoolAlone_main W x ⟨hwd, hwf, hp, hl, he, hk⟩ hg
  · exact PoolAlone_bad W x ⟨hwd, hwf, hp, hl, he, hk⟩ hg
end Go.Proofs.Ytpapcblgojfooaa
