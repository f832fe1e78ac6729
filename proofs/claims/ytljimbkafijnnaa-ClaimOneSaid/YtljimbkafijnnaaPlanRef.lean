/- The document's fresh Mem: the same words. -/
import Derived.Test.YtljimbkafijnnaaPlanFresh
namespace Go.Proofs.Ytljimbkafijnnaa
open Go.ChangeShapes Go.WideShapes Go.ChangeAt Go.RowKit Go.Shelf
set_option linter.unusedVariables false
variable {w0 w w' W : World} {F0 : Nat → Prop} {L : List Asn} {vp vl : Value} {pp pl : Option Addr} {np cp nl cl : Nat} {T : TypeId} {m : Nat} {ws : List Int} {l : List Acc}
theorem rPoke_at {i : Nat} {j : Int} (hj : j = i) {d : Int} (hn : ws.length ≤ 1000000) (h : Own w0 F0 (memA T m ws l :: L) w) :
    Calls Try.prog 36 #[.pointer (some ⟨m, 0, none⟩), .int .i64 j, .int .i64 d] w fun e w' => e = .returned (.tuple #[]) ∧ Own w0 F0 (memA T m (ws.set i d) l :: L) w' := by
  subst hj; exact rPoke_any i d hn h
set_option maxHeartbeats 1000000 in
theorem rFresh_any (c : Cf) (hr : c.Rt) {vl : Value} (hl : ∀ w', Own w0 F0 L w' → IntsAt w' .i64 vl c.ls) (h : Own w0 F0 L w) :
    Calls Try.prog 35 #[cfV c (.slice pp c.ps.length cp) vl] w (RetMem w0 F0 L 35 (freshW c c.ps.length) []) := by
  obtain ⟨b, off, cap, rfl, hb⟩ := (hl w h).at (by have := hr.n0; have := hr.ll; omega)
  have HL := Lib.hid hl
  obtain ⟨z1, z2⟩ := sizeN_eq hr
  have HLL := Lib.hid hr.ll
  have n0 := hr.n0
  have n1 := hr.n1
  have ti := hr.ti
  have hs := hr.sm
  have H1 := fun w => Lib.hid (rSize_q (pp := pp) (np := c.ps.length) (cp := cp) (pl := some ⟨b, off, none⟩) (nl := c.ls.length) (cl := cap) c hs (by omega) (by have := ti.1; omega) ti.2 w)
  rw [z1] at H1
  have h1 := h.new (cfO c (.slice pp c.ps.length cp) (.slice (some ⟨b, off, none⟩) c.ls.length cap))
  have HO1 := Lib.hid h1
  clear z1 ti hb hl h h1 hr
  go_enter Try.func35, Try.ntmps35
  go_wp2_with fail
  refine (H1 _).out.mono ?_
  rintro e w1 ⟨rfl, hB⟩
  have HO2 := Lib.hid (HO1.out.below hB)
  have HN := Lib.hid (rNew_any (sizeN c) (by omega) HO2.out)
  clear H1 HO1 hB
  go_wp2_with fail
  refine HN.out.mono ?_
  rintro e w2 ⟨m, rfl, hO⟩
  have HO3 := Lib.hid (show Own w0 F0 (memA 35 m (freshW c 0) [] :: blk w.heap.size (cfO c (.slice pp c.ps.length cp) (.slice (some ⟨b, off, none⟩) c.ls.length cap)) :: L) w2 from hO)
  clear hO HN HO2
  go_wp2_with fail
  go_loopw [4] (fun i wr => ∃ k : Nat, k ≤ c.ps.length ∧ i = .int .i64 k ∧ Own w0 F0 (memA 35 m (freshW c k) [] :: blk w.heap.size (cfO c (.slice pp c.ps.length cp) (.slice (some ⟨b, off, none⟩) c.ls.length cap)) :: L) wr) (fun i _ => c.ps.length - (intOf i).toNat)
  case atStart => exact ⟨0, by omega, rfl, HO3.out⟩
  case round =>
    obtain ⟨k, hk, rfl, hO⟩ := hrel
    obtain ⟨d0, d1, d2, d3, d4, d5, d6, d7⟩ := conf_cells hO.swap
    by_cases hlt : k < c.ps.length
    · have hltl : k < c.ls.length := by have := HLL.out; omega
      have hle : c.ls.length ≤ 12 := by have := HLL.out; omega
      obtain ⟨z, hz⟩ : ∃ z, z = c.ls.getD k 0 := ⟨_, rfl⟩
      have HZ : ∀ w', Own w0 F0 L w' → w'.cell? ⟨b, off + k, none⟩ = some (.int .i64 z) := fun w' h' => by
        obtain ⟨b', off', cap', he, hc⟩ := (HL.out w' h').at (by omega)
        injection he with he1 he2 he3
        injection he1 with he1
        injection he1 with he4 he5 he6
        subst he4 he5
        rw [hz]
        exact hc k hltl
      have dz := HZ _ hO.drop.drop
      have hlen : (freshW c k).length ≤ 1000000 := by rw [freshW_len]; omega
      have hq := limN_eq hs k
      have hb := lim_bd hs (show (0 : Int) ≤ k by omega) (by omega)
      have Q1 := fun w => Lib.hid (rLimit_q (pp := pp) (np := c.ps.length) (cp := cp) (pl := some ⟨b, off, none⟩) (nl := c.ls.length) (cl := cap) c hs k (by omega) (by omega) w)
      have Q2 := fun w => Lib.hid (rAvail_q (pp := pp) (np := c.ps.length) (cp := cp) (pl := some ⟨b, off, none⟩) (nl := c.ls.length) (cl := cap) c hs k (by omega) (by omega) w)
      have Q3 := fun w => Lib.hid (rCounter_q (pp := pp) (np := c.ps.length) (cp := cp) (pl := some ⟨b, off, none⟩) (nl := c.ls.length) (cl := cap) c hs k (by omega) (by omega) w)
      obtain ⟨s0, s1⟩ := hs
      have P1 := fun w' (h : Own w0 F0 (memA 35 m (freshW c k) [] :: blk w.heap.size (cfO c (.slice pp c.ps.length cp) (.slice (some ⟨b, off, none⟩) c.ls.length cap)) :: L) w') => Lib.hid (rPoke_at (i := limN c k) (j := lim c k) (by exact hq) (d := z) (by exact hlen) h)
      have P2 := fun w' (h : Own w0 F0 (memA 35 m ((freshW c k).set (limN c k) z) [] :: blk w.heap.size (cfO c (.slice pp c.ps.length cp) (.slice (some ⟨b, off, none⟩) c.ls.length cap)) :: L) w') => Lib.hid (rPoke_at (i := limN c k + 1) (j := lim c k + 1) (by omega) (d := z) (by simpa using hlen) h)
      have P3 := fun w' (h : Own w0 F0 (memA 35 m (((freshW c k).set (limN c k) z).set (limN c k + 1) z) [] :: blk w.heap.size (cfO c (.slice pp c.ps.length cp) (.slice (some ⟨b, off, none⟩) c.ls.length cap)) :: L) w') => Lib.hid (rPoke_at (i := limN c k + (5 + c.st.toNat)) (j := lim c k + 2 + c.st + 3) (by omega) (d := 1) (by simpa using hlen) h)
      have HE := Lib.hid (show ((freshW c k).set (limN c k) z |>.set (limN c k + 1) z).set (limN c k + (5 + c.st.toNat)) 1 = freshW c (k + 1) by rw [hz]; rfl)
      have hOd := hO.drew
      clear hz hlen hq hO HL
      generalize lim c k = q at *
      go_wp2_with fail
      go_region_held3 (fun w' => w'.cell? ⟨w.heap.size, 0, none⟩ = some (.int .i64 c.th) ∧ w'.cell? ⟨w.heap.size, 1, none⟩ = some (.int .i64 c.st) ∧ w'.cell? ⟨w.heap.size, 2, none⟩ = some (.int .i64 c.ga) ∧ w'.cell? ⟨w.heap.size, 3, none⟩ = some (.int .i64 c.le) ∧ w'.cell? ⟨w.heap.size, 4, none⟩ = some (.int .i64 c.re) ∧ w'.cell? ⟨w.heap.size, 5, none⟩ = some (.int .i64 c.ti) ∧ w'.cell? ⟨w.heap.size, 6, none⟩ = some (.slice pp c.ps.length cp) ∧ w'.cell? ⟨w.heap.size, 7, none⟩ = some (.slice (some ⟨b, off, none⟩) c.ls.length cap) ∧ w'.cell? ⟨b, off + k, none⟩ = some (.int .i64 z)) (go_keep) (first | (go_at_call 47; refine (Q1 _).out.mono ?_; rintro e w' ⟨rfl, hB⟩; have hO := Own.below (by with_reducible assumption) hB; obtain ⟨d0, d1, d2, d3, d4, d5, d6, d7⟩ := conf_cells hO.swap; have dz := HZ _ hO.drop.drop) | (go_at_call 36; refine (P1 _ (by with_reducible assumption)).out.mono ?_; rintro e w' ⟨rfl, hO⟩; obtain ⟨d0, d1, d2, d3, d4, d5, d6, d7⟩ := conf_cells hO.swap; have dz := HZ _ hO.drop.drop))
      all_goals
        clear hOd
        have hOd := hO.drew
        clear hO
        go_wp2_with fail
        go_region_held3 (fun w' => w'.cell? ⟨w.heap.size, 0, none⟩ = some (.int .i64 c.th) ∧ w'.cell? ⟨w.heap.size, 1, none⟩ = some (.int .i64 c.st) ∧ w'.cell? ⟨w.heap.size, 2, none⟩ = some (.int .i64 c.ga) ∧ w'.cell? ⟨w.heap.size, 3, none⟩ = some (.int .i64 c.le) ∧ w'.cell? ⟨w.heap.size, 4, none⟩ = some (.int .i64 c.re) ∧ w'.cell? ⟨w.heap.size, 5, none⟩ = some (.int .i64 c.ti) ∧ w'.cell? ⟨w.heap.size, 6, none⟩ = some (.slice pp c.ps.length cp) ∧ w'.cell? ⟨w.heap.size, 7, none⟩ = some (.slice (some ⟨b, off, none⟩) c.ls.length cap) ∧ w'.cell? ⟨b, off + k, none⟩ = some (.int .i64 z)) (go_keep) (first | (go_at_call 62; refine (Q2 _).out.mono ?_; rintro e w' ⟨rfl, hB⟩; have hO := Own.below (by with_reducible assumption) hB; obtain ⟨d0, d1, d2, d3, d4, d5, d6, d7⟩ := conf_cells hO.swap; have dz := HZ _ hO.drop.drop) | (go_at_call 36; refine (P2 _ (by with_reducible assumption)).out.mono ?_; rintro e w' ⟨rfl, hO⟩; obtain ⟨d0, d1, d2, d3, d4, d5, d6, d7⟩ := conf_cells hO.swap; have dz := HZ _ hO.drop.drop))
      all_goals
        clear hOd
        go_wp2_with fail
        refine (Q3 _).out.mono ?_
        rintro e w7 ⟨rfl, hB⟩
        have hO := Own.below hO hB
        go_wp2_with fail
        refine (P3 _ hO).out.mono ?_
        rintro e w8 ⟨rfl, hO⟩
        rw [HE.out] at hO
        have HO8 := Lib.hid hO
        clear hO hB
        go_wp2_with fail
        go_roundw
        case rel => exact ⟨k + 1, by omega, by go_num, HO8.out⟩
        case measure => simp [intOf]; omega
    · have hge : c.ps.length ≤ k := by omega
      have hkl : k = c.ps.length := by omega
      rw [hkl] at hO
      have HO := Lib.hid hO
      clear hO hkl
      go_wp2_with fail
      go_ret
      exact ⟨_, rfl, HO.out.under fun _ _ h => h.drop⟩
end Go.Proofs.Ytljimbkafijnnaa
