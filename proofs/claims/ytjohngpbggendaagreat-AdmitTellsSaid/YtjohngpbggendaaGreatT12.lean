/- Texts of elder layers, one behind the other: PlanFresh, PlanRef. -/
import Derived.Test.YtjohngpbggendaaGreatT11
section
/- plan.Fresh: what is laid of each node; the words of a fresh Mem. -/
namespace Go.Proofs.YtjohngpbggendaaGreat
open Go.ChangeShapes Go.WideShapes Go.ChangeAt Go.RowKit Go.Shelf
set_option linter.unusedVariables false
variable {w0 w w' W : World} {F0 : Nat → Prop} {L : List Asn} {vp vl : Value} {pp pl : Option Addr} {np cp nl cl : Nat} {T : TypeId} {m : Nat} {ws : List Int} {l : List Acc}
/-- Where a node's words begin, as a number of words. -/
def limN (c : Cf) (k : Nat) : Nat := k * (6 + 2 * c.st.toNat)
theorem limN_eq {c : Cf} (hs : Sm c) (k : Nat) : lim c k = (limN c k : Int) := by
  obtain ⟨s0, s1⟩ := hs
  unfold lim limN each
  rw [Int.natCast_mul]
  congr 1
  omega
/-- What is laid of a node. -/
def layW (c : Cf) (ws : List Int) (k : Nat) (x : Int) : List Int := ((ws.set (limN c k) x).set (limN c k + 1) x).set (limN c k + (5 + c.st.toNat)) 1
theorem layW_len (c : Cf) (ws : List Int) (k : Nat) (x : Int) : (layW c ws k x).length = ws.length := by simp [layW]
def sizeN (c : Cf) : Nat := limN c c.ps.length + 2 * c.ti.toNat
def freshW (c : Cf) : Nat → List Int
  | 0 => List.replicate (sizeN c) 0
  | k + 1 => layW c (freshW c k) k (c.ls.getD k 0)
theorem freshW_len (c : Cf) (k : Nat) : (freshW c k).length = sizeN c := by
  induction k with
  | zero => simp [freshW]
  | succ k ih => rw [freshW, layW_len, ih]
/-- What a call of Fresh's closure wants and leaves: the setting, the variable of the Mem, the Mem. -/
def FrS (T : TypeId) (bc bm m : Nat) (c : Cf) (vp vl : Value) (ws : List Int) (L : List Asn) : List Asn := memA T m ws [] :: blk bm (.cells #[.pointer (some ⟨m, 0, none⟩)] 37 (0, 0)) :: blk bc (cfO c vp vl) :: L
theorem FrS.cells {T : TypeId} {bc bm m : Nat} {c : Cf} {vp vl : Value} {ws : List Int} (h : Own w0 F0 (FrS T bc bm m c vp vl ws L) w) :
    w.cell? ⟨bm, 0, none⟩ = some (.pointer (some ⟨m, 0, none⟩)) ∧ w.cell? ⟨bc, 0, none⟩ = some (.int .i64 c.th) ∧ w.cell? ⟨bc, 1, none⟩ = some (.int .i64 c.st) ∧ w.cell? ⟨bc, 2, none⟩ = some (.int .i64 c.ga) ∧ w.cell? ⟨bc, 3, none⟩ = some (.int .i64 c.le) ∧
    w.cell? ⟨bc, 4, none⟩ = some (.int .i64 c.re) ∧ w.cell? ⟨bc, 5, none⟩ = some (.int .i64 c.ti) ∧ w.cell? ⟨bc, 6, none⟩ = some vp ∧ w.cell? ⟨bc, 7, none⟩ = some vl :=
  ⟨h.swap.cell (i := 0) rfl, conf_cells h.p2⟩
theorem FrS.poke {T : TypeId} {bc bm m : Nat} {c : Cf} {vp vl : Value} {ws : List Int} (i : Nat) (j : Int) (hj : j = i) (d : Int) (hi : i < ws.length) (h : Own w0 F0 (FrS T bc bm m c vp vl ws L) w) :
    Calls Tryz.prog 37 #[.pointer (some ⟨m, 0, none⟩), .int .i64 j, .int .i64 d] w fun e w' => e = .returned (.tuple #[]) ∧ Own w0 F0 (FrS T bc bm m c vp vl (ws.set i d) L) w' := by
  subst hj; exact Poke_yes i d hi h
set_option maxHeartbeats 1000000 in
theorem lay_any (c : Cf) (hs : Sm c) (bc bm : Nat) (k : Nat) (hk : k ≤ 12) (x : Int) (hlen : limN c (k + 1) ≤ ws.length) (h : Own w0 F0 (FrS T bc bm m c (.slice pp np cp) (.slice pl nl cl) ws L) w) :
    Calls Tryz.prog 83 #[.int .i64 k, .int .i64 x, .pointer (some ⟨bm, 0, none⟩), .pointer (some ⟨bc, 0, none⟩)] w fun e w' =>
      e = .returned (.tuple #[]) ∧ Own w0 F0 (FrS T bc bm m c (.slice pp np cp) (.slice pl nl cl) (layW c ws k x) L) w' := by
  have hl := limN_eq hs k
  have hn : limN c (k + 1) = limN c k + (6 + 2 * c.st.toNat) := by unfold limN; rw [Nat.succ_mul]
  have hb := lim_bd hs (show (0 : Int) ≤ k by omega) (by omega)
  obtain ⟨s0, s1⟩ := hs
  have H1 := fun w => Lib.hid (Limit_q (pp := pp) (np := np) (cp := cp) (pl := pl) (nl := nl) (cl := cl) c ⟨s0, s1⟩ k (by omega) (by omega) w)
  have H2 := fun w => Lib.hid (Avail_q (pp := pp) (np := np) (cp := cp) (pl := pl) (nl := nl) (cl := cl) c ⟨s0, s1⟩ k (by omega) (by omega) w)
  have H3 := fun w => Lib.hid (Counter_q (pp := pp) (np := np) (cp := cp) (pl := pl) (nl := nl) (cl := cl) c ⟨s0, s1⟩ k (by omega) (by omega) w)
  have P1 := fun w h => Lib.hid (FrS.poke (w0 := w0) (F0 := F0) (L := L) (w := w) (T := T) (bc := bc) (bm := bm) (m := m) (c := c) (vp := .slice pp np cp) (vl := .slice pl nl cl) (ws := ws) (limN c k) (lim c k) hl x (by omega) h)
  have P2 := fun w h => Lib.hid (FrS.poke (w0 := w0) (F0 := F0) (L := L) (w := w) (T := T) (bc := bc) (bm := bm) (m := m) (c := c) (vp := .slice pp np cp) (vl := .slice pl nl cl) (ws := ws.set (limN c k) x) (limN c k + 1) (lim c k + 1) (by omega) x (by simp; omega) h)
  have P3 := fun w h => Lib.hid (FrS.poke (w0 := w0) (F0 := F0) (L := L) (w := w) (T := T) (bc := bc) (bm := bm) (m := m) (c := c) (vp := .slice pp np cp) (vl := .slice pl nl cl) (ws := (ws.set (limN c k) x).set (limN c k + 1) x) (limN c k + (5 + c.st.toNat)) (IntKind.i64.wrap (lim c k + 2 + c.st + 3)) (by rw [IntWalk.i64_in _ (by omega)]; omega) 1 (by simp; omega) h)
  obtain ⟨dm, d0, d1, d2, d3, d4, d5, d6, d7⟩ := FrS.cells h
  have hOd := h.drew
  clear hl hn hlen h
  generalize lim c k = q at *
  go_enter Tryz.func83, Tryz.ntmps83
  go_wp2_with fail
  go_region_held3 (fun w' => w'.cell? ⟨bm, 0, none⟩ = some (.pointer (some ⟨m, 0, none⟩)) ∧ w'.cell? ⟨bc, 0, none⟩ = some (.int .i64 c.th) ∧ w'.cell? ⟨bc, 1, none⟩ = some (.int .i64 c.st) ∧ w'.cell? ⟨bc, 2, none⟩ = some (.int .i64 c.ga) ∧ w'.cell? ⟨bc, 3, none⟩ = some (.int .i64 c.le) ∧ w'.cell? ⟨bc, 4, none⟩ = some (.int .i64 c.re) ∧ w'.cell? ⟨bc, 5, none⟩ = some (.int .i64 c.ti) ∧ w'.cell? ⟨bc, 6, none⟩ = some (.slice pp np cp) ∧ w'.cell? ⟨bc, 7, none⟩ = some (.slice pl nl cl)) (go_keep) (first | (go_at_call 84; refine (H1 _).out.mono ?_; rintro e w' ⟨rfl, hB⟩; have hO := Own.below (by with_reducible assumption) hB; obtain ⟨dm, d0, d1, d2, d3, d4, d5, d6, d7⟩ := FrS.cells hO) | (go_at_call 37; refine (P1 _ (by with_reducible assumption)).out.mono ?_; rintro e w' ⟨rfl, hO⟩; obtain ⟨dm, d0, d1, d2, d3, d4, d5, d6, d7⟩ := FrS.cells hO))
  all_goals
    clear hOd
    have hOd := hO.drew
    clear hO
    go_wp2_with fail
    go_region_held3 (fun w' => w'.cell? ⟨bm, 0, none⟩ = some (.pointer (some ⟨m, 0, none⟩)) ∧ w'.cell? ⟨bc, 0, none⟩ = some (.int .i64 c.th) ∧ w'.cell? ⟨bc, 1, none⟩ = some (.int .i64 c.st) ∧ w'.cell? ⟨bc, 2, none⟩ = some (.int .i64 c.ga) ∧ w'.cell? ⟨bc, 3, none⟩ = some (.int .i64 c.le) ∧ w'.cell? ⟨bc, 4, none⟩ = some (.int .i64 c.re) ∧ w'.cell? ⟨bc, 5, none⟩ = some (.int .i64 c.ti) ∧ w'.cell? ⟨bc, 6, none⟩ = some (.slice pp np cp) ∧ w'.cell? ⟨bc, 7, none⟩ = some (.slice pl nl cl)) (go_keep) (first | (go_at_call 79; refine (H2 _).out.mono ?_; rintro e w' ⟨rfl, hB⟩; have hO := Own.below (by with_reducible assumption) hB; obtain ⟨dm, d0, d1, d2, d3, d4, d5, d6, d7⟩ := FrS.cells hO) | (go_at_call 37; refine (P2 _ (by with_reducible assumption)).out.mono ?_; rintro e w' ⟨rfl, hO⟩; obtain ⟨dm, d0, d1, d2, d3, d4, d5, d6, d7⟩ := FrS.cells hO))
  all_goals
    clear hOd
    have hOd := hO.drew
    clear hO
    go_wp2_with fail
    go_region_held3 (fun w' => w'.cell? ⟨bm, 0, none⟩ = some (.pointer (some ⟨m, 0, none⟩)) ∧ w'.cell? ⟨bc, 0, none⟩ = some (.int .i64 c.th) ∧ w'.cell? ⟨bc, 1, none⟩ = some (.int .i64 c.st) ∧ w'.cell? ⟨bc, 2, none⟩ = some (.int .i64 c.ga) ∧ w'.cell? ⟨bc, 3, none⟩ = some (.int .i64 c.le) ∧ w'.cell? ⟨bc, 4, none⟩ = some (.int .i64 c.re) ∧ w'.cell? ⟨bc, 5, none⟩ = some (.int .i64 c.ti) ∧ w'.cell? ⟨bc, 6, none⟩ = some (.slice pp np cp) ∧ w'.cell? ⟨bc, 7, none⟩ = some (.slice pl nl cl)) (go_keep) (first | (go_at_call 33; refine (H3 _).out.mono ?_; rintro e w' ⟨rfl, hB⟩; have hO := Own.below (by with_reducible assumption) hB; obtain ⟨dm, d0, d1, d2, d3, d4, d5, d6, d7⟩ := FrS.cells hO) | (go_at_call 37; refine (P3 _ (by with_reducible assumption)).out.mono ?_; rintro e w' ⟨rfl, hO⟩; obtain ⟨dm, d0, d1, d2, d3, d4, d5, d6, d7⟩ := FrS.cells hO))
  all_goals
    clear hOd
    have HO := Lib.hid hO
    clear hO
    go_wp2_with fail
    go_end0
    exact ⟨rfl, HO.out⟩
theorem sizeN_eq {c : Cf} (hr : c.Rt) : lim c c.ps.length + 2 * c.ti = (sizeN c : Int) ∧ sizeN c ≤ 400 := by
  have h1 := limN_eq hr.sm c.ps.length
  have h2 := hr.ti
  have h3 := lim_bd hr.sm (show (0 : Int) ≤ c.ps.length by omega) (by have := hr.n1; omega)
  unfold Bd at h2
  unfold sizeN
  omega
theorem limN_mono {c : Cf} {a b : Nat} (h : a ≤ b) : limN c a ≤ limN c b := Nat.mul_le_mul_right _ h
theorem Fresh_any (c : Cf) (hr : c.Rt) {vl : Value} (hl : ∀ w', Own w0 F0 L w' → IntsAt w' .i64 vl c.ls) (h : Own w0 F0 L w) :
    Calls Tryz.prog 44 #[cfV c (.slice pp c.ps.length cp) vl] w (RetMem w0 F0 L 110 (freshW c c.ps.length) []) := by
  obtain ⟨b, off, cap, rfl, hb⟩ := (hl w h).at (by have := hr.n0; have := hr.ll; omega)
  have HL := Lib.hid hl
  obtain ⟨z1, z2⟩ := sizeN_eq hr
  have HLL := Lib.hid hr.ll
  have n0 := hr.n0
  have n1 := hr.n1
  have ti := hr.ti
  have hs := hr.sm
  have hlm := fun k (hk : k < c.ps.length) => Lib.hid (show limN c (k + 1) ≤ (freshW c k).length by rw [freshW_len]; unfold sizeN; have := limN_mono (c := c) (show k + 1 ≤ c.ps.length by omega); omega)
  have H1 := fun w => Lib.hid (Size_q (pp := pp) (np := c.ps.length) (cp := cp) (pl := some ⟨b, off, none⟩) (nl := c.ls.length) (cl := cap) c hs (by omega) (by have := ti.1; omega) ti.2 w)
  rw [z1] at H1
  have h1 := h.new (cfO c (.slice pp c.ps.length cp) (.slice (some ⟨b, off, none⟩) c.ls.length cap))
  have HO1 := Lib.hid h1
  clear z1 ti hb hl h h1 hr
  go_enter Tryz.func44, Tryz.ntmps44
  go_wp2_with fail
  refine (H1 _).out.mono ?_
  rintro e w1 ⟨rfl, hB⟩
  have HO2 := Lib.hid (HO1.out.below hB)
  have HN := Lib.hid (New_any (sizeN c) (by omega) HO2.out)
  clear H1 HO1 hB
  go_wp2_with fail
  refine HN.out.mono ?_
  rintro e w2 ⟨m, rfl, hO⟩
  have h3 : Own w0 F0 (FrS 110 w.heap.size w2.heap.size m c (.slice pp c.ps.length cp) (.slice (some ⟨b, off, none⟩) c.ls.length cap) (freshW c 0) L) (w2.alloc (.cells #[.pointer (some ⟨m, 0, none⟩)] 37)) := (hO.new (.cells #[.pointer (some ⟨m, 0, none⟩)] 37)).swap
  have HO3 := Lib.hid h3
  obtain ⟨em, e0, e1, e2, e3, e4, e5, e6, e7⟩ := FrS.cells h3
  obtain ⟨d0, d1, d2, d3, d4, d5, d6, d7⟩ := conf_cells hO.swap
  clear hO HN HO2 h3
  go_wp2_with fail
  clear em e0 e1 e2 e3 e4 e5 e6 e7 d0 d1 d2 d3 d4 d5 d6 d7
  go_loopw [14] (fun i wr => ∃ k : Nat, k ≤ c.ps.length ∧ i = .int .i64 k ∧ Own w0 F0 (FrS 110 w.heap.size w2.heap.size m c (.slice pp c.ps.length cp) (.slice (some ⟨b, off, none⟩) c.ls.length cap) (freshW c k) L) wr) (fun i _ => c.ps.length - (intOf i).toNat)
  case atStart => exact ⟨0, by omega, rfl, HO3.out⟩
  case round =>
    obtain ⟨k, hk, rfl, hO⟩ := hrel
    have HO := Lib.hid hO
    obtain ⟨dm, d0, d1, d2, d3, d4, d5, d6, d7⟩ := FrS.cells hO
    by_cases hlt : k < c.ps.length
    · have hltl : k < c.ls.length := by have := HLL.out; omega
      obtain ⟨b', off', cap', he, hc⟩ := (HL.out wr hO.drop.drop.drop).at (by omega)
      injection he with he1 he2 he3
      injection he1 with he1
      injection he1 with he4 he5 he6
      subst he4 he5
      have hck := hc k hltl
      have H3 := Lib.hid (lay_any (T := 110) (pp := pp) (np := c.ps.length) (cp := cp) (pl := some ⟨b, off, none⟩) (nl := c.ls.length) (cl := cap) c hs w.heap.size w2.heap.size k (by omega) (c.ls.getD k 0) (hlm k hlt).out hO)
      have e4 : layW c (freshW c k) k (c.ls.getD k 0) = freshW c (k + 1) := rfl
      rw [e4] at H3
      generalize c.ls.getD k 0 = z at hck H3
      clear hc he2 he3 he6 hO e4
      go_wp2_with fail
      refine H3.out.mono ?_
      rintro e w4 ⟨rfl, hO⟩
      have HO4 := Lib.hid hO
      clear hO H3
      go_wp2_with fail
      go_roundw
      case rel => exact ⟨k + 1, by omega, by go_num, HO4.out⟩
      case measure => simp [intOf]; omega
    · have hge : c.ls.length ≤ k := by have := HLL.out; omega
      have hkl : k = c.ps.length := by omega
      rw [hkl] at HO
      clear hO hkl
      go_wp2_with fail
      go_ret
      exact ⟨_, rfl, HO.out.under fun _ _ h => h.drop.drop⟩
end Go.Proofs.YtjohngpbggendaaGreat
end
section
/- The document's fresh Mem: the same words. -/
namespace Go.Proofs.YtjohngpbggendaaGreat
open Go.ChangeShapes Go.WideShapes Go.ChangeAt Go.RowKit Go.Shelf
set_option linter.unusedVariables false
variable {w0 w w' W : World} {F0 : Nat → Prop} {L : List Asn} {vp vl : Value} {pp pl : Option Addr} {np cp nl cl : Nat} {T : TypeId} {m : Nat} {ws : List Int} {l : List Acc}
theorem rPoke_at {i : Nat} {j : Int} (hj : j = i) {d : Int} (hn : ws.length ≤ 1000000) (h : Own w0 F0 (memA T m ws l :: L) w) :
    Calls Tryz.prog 50 #[.pointer (some ⟨m, 0, none⟩), .int .i64 j, .int .i64 d] w fun e w' => e = .returned (.tuple #[]) ∧ Own w0 F0 (memA T m (ws.set i d) l :: L) w' := by
  subst hj; exact rPoke_any i d hn h
set_option maxHeartbeats 1000000 in
theorem rFresh_any (c : Cf) (hr : c.Rt) {vl : Value} (hl : ∀ w', Own w0 F0 L w' → IntsAt w' .i64 vl c.ls) (h : Own w0 F0 L w) :
    Calls Tryz.prog 49 #[cfV c (.slice pp c.ps.length cp) vl] w (RetMem w0 F0 L 42 (freshW c c.ps.length) []) := by
  obtain ⟨b, off, cap, rfl, hb⟩ := (hl w h).at (by have := hr.n0; have := hr.ll; omega)
  have HL := Lib.hid hl
  obtain ⟨z1, z2⟩ := sizeN_eq hr
  have HLL := Lib.hid hr.ll
  have n0 := hr.n0
  have n1 := hr.n1
  have ti := hr.ti
  have hs := hr.sm
  have H1 := fun w => Lib.hid (rSize_q (pp := pp) (np := c.ps.length) (cp := cp) (pl := some ⟨b, off, none⟩) (nl := c.ls.length) (cl := cap) c hs (by omega) (by have := ti.1; omega) ti.2 w)
  rw [z1] at H1
  have h1 := h.new (cfO c (.slice pp c.ps.length cp) (.slice (some ⟨b, off, none⟩) c.ls.length cap))
  have HO1 := Lib.hid h1
  clear z1 ti hb hl h h1 hr
  go_enter Tryz.func49, Tryz.ntmps49
  go_wp2_with fail
  refine (H1 _).out.mono ?_
  rintro e w1 ⟨rfl, hB⟩
  have HO2 := Lib.hid (HO1.out.below hB)
  have HN := Lib.hid (rNew_any (sizeN c) (by omega) HO2.out)
  clear H1 HO1 hB
  go_wp2_with fail
  refine HN.out.mono ?_
  rintro e w2 ⟨m, rfl, hO⟩
  have HO3 := Lib.hid (show Own w0 F0 (memA 42 m (freshW c 0) [] :: blk w.heap.size (cfO c (.slice pp c.ps.length cp) (.slice (some ⟨b, off, none⟩) c.ls.length cap)) :: L) w2 from hO)
  clear hO HN HO2
  go_wp2_with fail
  go_loopw [4] (fun i wr => ∃ k : Nat, k ≤ c.ps.length ∧ i = .int .i64 k ∧ Own w0 F0 (memA 42 m (freshW c k) [] :: blk w.heap.size (cfO c (.slice pp c.ps.length cp) (.slice (some ⟨b, off, none⟩) c.ls.length cap)) :: L) wr) (fun i _ => c.ps.length - (intOf i).toNat)
  case atStart => exact ⟨0, by omega, rfl, HO3.out⟩
  case round =>
    obtain ⟨k, hk, rfl, hO⟩ := hrel
    obtain ⟨d0, d1, d2, d3, d4, d5, d6, d7⟩ := conf_cells hO.swap
    by_cases hlt : k < c.ps.length
    · have hltl : k < c.ls.length := by have := HLL.out; omega
      have hle : c.ls.length ≤ 12 := by have := HLL.out; omega
      obtain ⟨z, hz⟩ : ∃ z, z = c.ls.getD k 0 := ⟨_, rfl⟩
      have HZ : ∀ w', Own w0 F0 L w' → w'.cell? ⟨b, off + k, none⟩ = some (.int .i64 z) := fun w' h' => by
        obtain ⟨b', off', cap', he, hc⟩ := (HL.out w' h').at (by omega)
        injection he with he1 he2 he3
        injection he1 with he1
        injection he1 with he4 he5 he6
        subst he4 he5
        rw [hz]
        exact hc k hltl
      have dz := HZ _ hO.drop.drop
      have hlen : (freshW c k).length ≤ 1000000 := by rw [freshW_len]; omega
      have hq := limN_eq hs k
      have hb := lim_bd hs (show (0 : Int) ≤ k by omega) (by omega)
      have Q1 := fun w => Lib.hid (rLimit_q (pp := pp) (np := c.ps.length) (cp := cp) (pl := some ⟨b, off, none⟩) (nl := c.ls.length) (cl := cap) c hs k (by omega) (by omega) w)
      have Q2 := fun w => Lib.hid (rAvail_q (pp := pp) (np := c.ps.length) (cp := cp) (pl := some ⟨b, off, none⟩) (nl := c.ls.length) (cl := cap) c hs k (by omega) (by omega) w)
      have Q3 := fun w => Lib.hid (rCounter_q (pp := pp) (np := c.ps.length) (cp := cp) (pl := some ⟨b, off, none⟩) (nl := c.ls.length) (cl := cap) c hs k (by omega) (by omega) w)
      obtain ⟨s0, s1⟩ := hs
      have P1 := fun w' (h : Own w0 F0 (memA 42 m (freshW c k) [] :: blk w.heap.size (cfO c (.slice pp c.ps.length cp) (.slice (some ⟨b, off, none⟩) c.ls.length cap)) :: L) w') => Lib.hid (rPoke_at (i := limN c k) (j := lim c k) (by exact hq) (d := z) (by exact hlen) h)
      have P2 := fun w' (h : Own w0 F0 (memA 42 m ((freshW c k).set (limN c k) z) [] :: blk w.heap.size (cfO c (.slice pp c.ps.length cp) (.slice (some ⟨b, off, none⟩) c.ls.length cap)) :: L) w') => Lib.hid (rPoke_at (i := limN c k + 1) (j := lim c k + 1) (by omega) (d := z) (by simpa using hlen) h)
      have P3 := fun w' (h : Own w0 F0 (memA 42 m (((freshW c k).set (limN c k) z).set (limN c k + 1) z) [] :: blk w.heap.size (cfO c (.slice pp c.ps.length cp) (.slice (some ⟨b, off, none⟩) c.ls.length cap)) :: L) w') => Lib.hid (rPoke_at (i := limN c k + (5 + c.st.toNat)) (j := lim c k + 2 + c.st + 3) (by omega) (d := 1) (by simpa using hlen) h)
      have HE := Lib.hid (show ((freshW c k).set (limN c k) z |>.set (limN c k + 1) z).set (limN c k + (5 + c.st.toNat)) 1 = freshW c (k + 1) by rw [hz]; rfl)
      have hOd := hO.drew
      clear hz hlen hq hO HL
      generalize lim c k = q at *
      go_wp2_with fail
      go_region_held3 (fun w' => w'.cell? ⟨w.heap.size, 0, none⟩ = some (.int .i64 c.th) ∧ w'.cell? ⟨w.heap.size, 1, none⟩ = some (.int .i64 c.st) ∧ w'.cell? ⟨w.heap.size, 2, none⟩ = some (.int .i64 c.ga) ∧ w'.cell? ⟨w.heap.size, 3, none⟩ = some (.int .i64 c.le) ∧ w'.cell? ⟨w.heap.size, 4, none⟩ = some (.int .i64 c.re) ∧ w'.cell? ⟨w.heap.size, 5, none⟩ = some (.int .i64 c.ti) ∧ w'.cell? ⟨w.heap.size, 6, none⟩ = some (.slice pp c.ps.length cp) ∧ w'.cell? ⟨w.heap.size, 7, none⟩ = some (.slice (some ⟨b, off, none⟩) c.ls.length cap) ∧ w'.cell? ⟨b, off + k, none⟩ = some (.int .i64 z)) (go_keep) (first | (go_at_call 27; refine (Q1 _).out.mono ?_; rintro e w' ⟨rfl, hB⟩; have hO := Own.below (by with_reducible assumption) hB; obtain ⟨d0, d1, d2, d3, d4, d5, d6, d7⟩ := conf_cells hO.swap; have dz := HZ _ hO.drop.drop) | (go_at_call 50; refine (P1 _ (by with_reducible assumption)).out.mono ?_; rintro e w' ⟨rfl, hO⟩; obtain ⟨d0, d1, d2, d3, d4, d5, d6, d7⟩ := conf_cells hO.swap; have dz := HZ _ hO.drop.drop))
      all_goals
        clear hOd
        have hOd := hO.drew
        clear hO
        go_wp2_with fail
        go_region_held3 (fun w' => w'.cell? ⟨w.heap.size, 0, none⟩ = some (.int .i64 c.th) ∧ w'.cell? ⟨w.heap.size, 1, none⟩ = some (.int .i64 c.st) ∧ w'.cell? ⟨w.heap.size, 2, none⟩ = some (.int .i64 c.ga) ∧ w'.cell? ⟨w.heap.size, 3, none⟩ = some (.int .i64 c.le) ∧ w'.cell? ⟨w.heap.size, 4, none⟩ = some (.int .i64 c.re) ∧ w'.cell? ⟨w.heap.size, 5, none⟩ = some (.int .i64 c.ti) ∧ w'.cell? ⟨w.heap.size, 6, none⟩ = some (.slice pp c.ps.length cp) ∧ w'.cell? ⟨w.heap.size, 7, none⟩ = some (.slice (some ⟨b, off, none⟩) c.ls.length cap) ∧ w'.cell? ⟨b, off + k, none⟩ = some (.int .i64 z)) (go_keep) (first | (go_at_call 30; refine (Q2 _).out.mono ?_; rintro e w' ⟨rfl, hB⟩; have hO := Own.below (by with_reducible assumption) hB; obtain ⟨d0, d1, d2, d3, d4, d5, d6, d7⟩ := conf_cells hO.swap; have dz := HZ _ hO.drop.drop) | (go_at_call 50; refine (P2 _ (by with_reducible assumption)).out.mono ?_; rintro e w' ⟨rfl, hO⟩; obtain ⟨d0, d1, d2, d3, d4, d5, d6, d7⟩ := conf_cells hO.swap; have dz := HZ _ hO.drop.drop))
      all_goals
        clear hOd
        go_wp2_with fail
        refine (Q3 _).out.mono ?_
        rintro e w7 ⟨rfl, hB⟩
        have hO := Own.below hO hB
        go_wp2_with fail
        refine (P3 _ hO).out.mono ?_
        rintro e w8 ⟨rfl, hO⟩
        rw [HE.out] at hO
        have HO8 := Lib.hid hO
        clear hO hB
        go_wp2_with fail
        go_roundw
        case rel => exact ⟨k + 1, by omega, by go_num, HO8.out⟩
        case measure => simp [intOf]; omega
    · have hge : c.ps.length ≤ k := by omega
      have hkl : k = c.ps.length := by omega
      rw [hkl] at hO
      have HO := Lib.hid hO
      clear hO hkl
      go_wp2_with fail
      go_ret
      exact ⟨_, rfl, HO.out.under fun _ _ h => h.drop⟩
end Go.Proofs.YtjohngpbggendaaGreat
end
