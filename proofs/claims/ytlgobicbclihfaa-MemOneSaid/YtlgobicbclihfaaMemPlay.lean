/- MemPlay. -/
import Derived.Test.YtlgobicbclihfaaMemCas
namespace Go.Proofs.Ytlgobicbclihfaa
open Go.ChangeShapes Go.WideShapes Go.ChangeAt Go.RowKit Go.Shelf
set_option linter.unusedVariables false
def addOne (ws : List Int) : List Int := ws.set 1 (wrap64 (ws.getD 1 0 + 1))
def plW (l : List Pk) : Nat → List Int
  | 0 => [0, 0]
  | t + 1 => addOne (pokesAt t l (plW l t))
theorem plW_len (l : List Pk) : ∀ t, (plW l t).length = 2
  | 0 => rfl
  | t + 1 => by simp [plW, addOne, pokesAt_len, plW_len l t]
theorem adder_run (g : Nat) (l : List Pk) (many : Nat) : ∀ (f t : Nat) (last : Int) (lg : List Acc), t < many → lg.length = t →
    ∃ (last' : Int) (lg' : List Acc), playF (adder g) l f t ⟨1, many - t, last⟩ (plW l t) lg = (min many (t + f), decide (many ≤ t + f), ⟨1, many - min many (t + f), last'⟩, plW l (min many (t + f)), lg') ∧ lg'.length = min many (t + f)
  | 0, t, last, lg, ht, hl => ⟨last, lg, by
      rw [playF, Nat.add_zero, Nat.min_eq_right (by omega), show decide (many ≤ t) = false by simp; omega], by omega⟩
  | f + 1, t, last, lg, ht, hl => by
    rw [playF]
    simp only [adder, if_pos (show 0 < many - t by omega)]
    by_cases h1 : many - t - 1 = 0
    · rw [if_pos (by simpa using h1)]
      refine ⟨wrap64 ((pokesAt t l (plW l t)).getD 1 0 + 1), lg ++ [⟨2, (1 : Nat), 1, wrap64 ((pokesAt t l (plW l t)).getD 1 0 + 1), false⟩], ?_, by simp; omega⟩
      rw [Nat.min_eq_left (by omega), show decide (many ≤ t + (f + 1)) = true by simp; omega, show t + 1 = many by omega, h1, Nat.sub_self, show many = t + 1 by omega]
      rfl
    · rw [if_neg (by simpa using h1)]
      have := adder_run g l many f (t + 1) (wrap64 ((pokesAt t l (plW l t)).getD 1 0 + 1)) (lg ++ [⟨2, (1 : Nat), 1, wrap64 ((pokesAt t l (plW l t)).getD 1 0 + 1), false⟩]) (by omega) (by simp; omega)
      rw [show t + 1 + f = t + (f + 1) by omega, show many - (t + 1) = many - t - 1 by omega] at this
      exact this
/-- Those of l's first k that come at t, over two words. -/
theorem pokes_take {l : List Pk} {k : Nat} {t : Int} (hk : k < l.length) (ws : List Int) : pokesAt t (l.take (k + 1)) ws = if (l.getD k default).at_ = t then pokeW (pokesAt t (l.take k) ws) (l.getD k default) else pokesAt t (l.take k) ws := by
  have e : l.getD k default = l[k] := by simp [List.getD, hk]
  rw [List.take_succ_eq_append_getElem hk, pokesAt_app, e]
  split
  · rename_i h; rw [pokesAt_cons_hit h]; rfl
  · rename_i h; rw [pokesAt_cons_miss h]; rfl
def wB (c : Nat) (ws : List Int) : Asn := blk c (.cells (intC ws).toArray 3 (0, 0))
variable {w0 w w' : World} {F0 : Nat → Prop} {L : List Asn}
theorem Own.wAt {c : Nat} {ws : List Int} (h : Own w0 F0 (wB c ws :: L) w) (j : Nat) (hj : j < ws.length) : w.cell? ⟨c, j, none⟩ = some (.int .i64 (ws.getD j 0)) :=
  h.cell (by simp [intC, hj])
theorem Own.wSet {c : Nat} {ws : List Int} (h : Own w0 F0 (wB c ws :: L) w) (j : Nat) (x : Int) : Own w0 F0 (wB c (ws.set j x) :: L) (w.setCell ⟨c, j, none⟩ (.int .i64 x)) := by
  have := Own.set h j (.int .i64 x)
  rw [show ((intC ws).toArray.setIfInBounds j (.int .i64 x)) = (intC (ws.set j x)).toArray by simp [intC]] at this
  exact this
theorem Own.wRow {c n : Nat} {ws : List Int} (h : Own w0 F0 (wB c ws :: L) w) (hn : ws.length = n) (hm : n ≤ 1000000) : Own w0 F0 (row (.slice (some ⟨c, 0, none⟩) n n) 3 1 n (intC ws) :: L) w :=
  Own.blkRow h (Nat.le_refl _) (by unfold maxLen; omega) (by simp [intC, hn]) (by simp [intC]; exact List.take_of_length_le (by simp; omega)) (by simp [intC, hn])
def pksOf (rows : List (List Int)) : List Pk := rows.map fun r => ⟨r.getD 0 0, r.getD 1 0, r.getD 2 0⟩
theorem pksOf_C : ∀ {rows : List (List Int)}, (∀ r ∈ rows, r.length = 3) → rowsC [.i64, .i64, .i64] rows = pkC (pksOf rows)
  | [], _ => rfl
  | r :: rows, h => by
    have ih := pksOf_C (rows := rows) (fun r hr => h r (by simp [hr]))
    have hr := h r (by simp)
    match r, hr with
    | [a, b, c], _ =>
      simp only [rowsC, List.flatMap_cons, pkC, pksOf, List.map_cons] at ih ⊢
      rw [ih]; rfl
theorem MemPlay_big (W : World) (many most : Int) (p : Option Addr) (n cap : Nat) (hn : n ≤ 9223372036854775807) (h : 50 < n ∨ many = 0) : 
    Calls Try.prog 6 #[.int .u8 many, .int .u8 most, .slice p n cap] W fun e w' => e = .returned (.bool true) ∧ Below W.heap.size W w' := by
  have Hh := Lib.hid (head_any (Own.start W))
  rcases h with h | h
  · go_enter Try.func6, Try.ntmps6
    go_wp2_with fail
    refine Hh.out.mono ?_
    rintro e w1 ⟨rfl, hO⟩
    go_wp2_with fail
    go_ret
    exact ⟨rfl, hO.toBelow⟩
  · subst h
    by_cases h : 50 < n
    all_goals
      go_enter Try.func6, Try.ntmps6
      go_wp2_with fail
      refine Hh.out.mono ?_
      rintro e w1 ⟨rfl, hO⟩
      go_wp2_with fail
      go_ret
      exact ⟨rfl, hO.toBelow⟩
theorem Own.asInts {v : Value} {n : Nat} {zs : List Int} (h : Own w0 F0 (row v 3 1 n (intC zs) :: L) w) (hn : zs.length = n) : IntsAt w .i64 v zs := by
  subst hn; exact h.intsAt
theorem MemPlay_le (W : World) (many most : Nat) (h1 : 0 < many) (h2 : many ≤ 255) (h3 : most ≤ 255) (hmm : many ≤ most) (p : Option Addr) (cap : Nat) (l : List Pk) (hl : l.length ≤ 50) (hv : PksAt W (.slice p l.length cap) l) :
    Calls Try.prog 6 #[.int .u8 many, .int .u8 most, .slice p l.length cap] W fun e w' => e = .returned (.bool true) ∧ Below W.heap.size W w' := by
  have Hh := Lib.hid (head_any (Own.start W))
  have HV := Lib.hid hv
  have hF1 : ((many : Int) == 0) = false := by rw [beq_eq_false_iff_ne]; omega
  clear hv
  go_enter Try.func6, Try.ntmps6
  go_wp2_with fail
  refine Hh.out.mono ?_
  rintro e w1 ⟨rfl, hO⟩
  have H1 := Lib.hid (New_any 2 (by omega) hO)
  clear hO Hh
  go_wp2_with fail
  refine H1.out.mono ?_
  rintro e w2 ⟨m, rfl, hO⟩
  have hO2 := hO.new (.cells #[.int .i64 (1 : Nat), .int .i64 many, .int .i64 0] 49)
  have H2 := Lib.hid (Adder_play w2.heap.size m (.slice p l.length cap) ⟨1, many, 0⟩ [0, 0] [] l most (by omega) (HV.out.below hO2.toBelow) (by omega) (by simp) (by show many ≤ 300; omega) (by simp) hO2)
  obtain ⟨last, lg, hr, hlg⟩ := adder_run w2.heap.size l many most 0 0 [] h1 rfl
  rw [Nat.sub_zero, Nat.zero_add] at hr
  change playF (adder w2.heap.size) l most 0 ⟨1, many, 0⟩ [0, 0] [] = _ at hr
  rw [Int.toNat_natCast, hr] at H2
  rw [Nat.zero_add] at hlg
  have Hlg := Lib.hid hlg
  clear hO H1 hr hO2 hlg
  rw [show min many most = many by omega, show decide (many ≤ most) = true by simp; omega] at H2
  rw [show min many most = many by omega] at Hlg
  go_wp2_with fail
  refine H2.out.mono ?_
  rintro e w3 ⟨rfl, hO⟩
  have hO : Own W NoF [memA 60 m (plW l many) lg] w3 := hO.drop
  have HM := Lib.hid (show Own W NoF [wB w3.heap.size (plW l 0), memA 60 m (plW l many) lg] _ from hO.new (.cells #[.int .i64 0, .int .i64 0] 3))
  clear H2 hO
  go_wp2_with fail
  generalize w3.heap.size = c at HM ⊢
  go_loopw [14] (fun vi wr => ∃ i : Nat, i ≤ many ∧ vi = .int .i64 i ∧ Own W NoF [wB c (plW l i), memA 60 m (plW l many) lg] wr) (fun vi _ => many - (intOf vi).toNat)
  case atStart => exact ⟨0, by omega, rfl, HM.out⟩
  case round =>
    obtain ⟨i, hi, rfl, hO⟩ := hrel
    have HO := Lib.hid hO
    clear HM hO
    by_cases hlt : i < many
    · have HO2 := Lib.hid (show Own W NoF [wB c (pokesAt i (l.take 0) (plW l i)), memA 60 m (plW l many) lg] wr from HO.out)
      clear HO
      go_wp2_with fail
      go_loopw [15] (fun vk wr => ∃ k : Nat, k ≤ l.length ∧ vk = .int .i64 k ∧ Own W NoF [wB c (pokesAt i (l.take k) (plW l i)), memA 60 m (plW l many) lg] wr) (fun vk _ => l.length - (intOf vk).toNat)
      case atStart => exact ⟨0, by omega, rfl, HO2.out⟩
      case round =>
        obtain ⟨k, hk, rfl, hO⟩ := hrel
        have HO := Lib.hid hO
        clear HO2
        by_cases hkl : k < l.length
        · obtain ⟨b, off, rfl, hbW, hc⟩ := (HV.out.below hO.toBelow).at (by rw [pkC_len]; omega) (by omega)
          have hlen : (pokesAt i (l.take k) (plW l i)).length = 2 := by rw [pokesAt_len, plW_len]
          have Hnx := Lib.hid (pokes_take (t := (i : Int)) hkl (plW l i))
          obtain ⟨x, hx⟩ : ∃ x, x = l.getD k default := ⟨_, rfl⟩
          have e := fun j hj => pkC_get l k j hkl hj
          rw [← hx] at e Hnx
          have x0 : wr.cell? ⟨b, off + k * 3, none⟩ = some (.int .i64 x.at_) := hc (k * 3 + 0) _ (e 0 (by omega))
          have x1 : wr.cell? ⟨b, off + k * 3 + 1, none⟩ = some (.int .i64 x.w) := hc (k * 3 + 1) _ (e 1 (by omega))
          have x2 : wr.cell? ⟨b, off + k * 3 + 2, none⟩ = some (.int .i64 x.x) := hc (k * 3 + 2) _ (e 2 (by omega))
          clear hc e hx
          generalize pokesAt i (l.take k) (plW l i) = ws at HO hlen Hnx hO
          have Hlen := Lib.hid hlen
          by_cases hat : x.at_ = i
          · by_cases hw : 0 ≤ x.w ∧ x.w < 2
            · obtain ⟨hw0, hw1⟩ := hw
              obtain ⟨q, hq⟩ := Int.eq_ofNat_of_zero_le hw0
              have hq2 : q < 2 := by omega
              have hnx := Hnx.out
              rw [if_pos hat, pokeW, if_pos ⟨hw0, by omega⟩, hq, Int.toNat_natCast] at hnx
              have Hnx2 := Lib.hid hnx
              have wcell : wr.cell? ⟨c, q, none⟩ = some (.int .i64 (ws.getD q 0)) := hO.wAt q (by omega)
              have wfr : wr.frozen? ⟨c, q, none⟩ = false := Own.unfrozen hO
              have HS := Lib.hid (hO.wSet q x.x)
              rw [hq] at x1 hw0 hw1
              have hF : (x.at_ == (i : Int)) = true := by rw [beq_iff_eq]; exact hat
              clear hnx hlen hat hq hO Hnx
              generalize ws.getD q 0 = old at wcell
              go_wp2_with fail
              go_region
              all_goals
                have hO := HS.out.drew
                rw [← Hnx2.out] at hO
                have HO3 := Lib.hid hO
                clear hO x0 x1 x2 wcell wfr
                go_wp2_with fail
                go_roundw
                case rel => exact ⟨k + 1, by omega, by go_num, HO3.out⟩
                case measure => simp [intOf]; omega
            · have hnx := Hnx.out
              rw [if_pos hat, pokeW, if_neg (by omega)] at hnx
              have Hnx2 := Lib.hid hnx
              have hF : (x.at_ == (i : Int)) = true := by rw [beq_iff_eq]; exact hat
              clear hnx hlen hat hO Hnx
              by_cases hw0 : 0 ≤ x.w
              all_goals
                try (have hw1 : 2 ≤ x.w := by omega)
                clear hw
                go_wp2_with fail
                go_roundw
                case rel => exact ⟨k + 1, by omega, by go_num, by rw [Hnx2.out]; exact HO.out⟩
                case measure => simp [intOf]; omega
          · have hnx := Hnx.out
            rw [if_neg hat] at hnx
            have Hnx2 := Lib.hid hnx
            have hF : (x.at_ == (i : Int)) = false := by rw [beq_eq_false_iff_ne]; exact hat
            clear hnx hlen hat hO Hnx
            go_wp2_with fail
            go_roundw
            case rel => exact ⟨k + 1, by omega, by go_num, by rw [Hnx2.out]; exact HO.out⟩
            case measure => simp [intOf]; omega
        · rw [List.take_of_length_le (by omega)] at hO
          have hl1 : (pokesAt i l (plW l i)).length = 2 := by rw [pokesAt_len, plW_len]
          have wcell : wr.cell? ⟨c, 1, none⟩ = some (.int .i64 ((pokesAt i l (plW l i)).getD 1 0)) := hO.wAt 1 (by omega)
          have wfr : wr.frozen? ⟨c, 1, none⟩ = false := Own.unfrozen hO
          have HS := Lib.hid (show Own W NoF [wB c (plW l (i + 1)), memA 60 m (plW l many) lg] _ from hO.wSet 1 (wrap64 ((pokesAt i l (plW l i)).getD 1 0 + 1)))
          clear hO HO hl1
          generalize (pokesAt i l (plW l i)).getD 1 0 = old at wcell HS
          go_wp2_with fail
          go_roundw
          case rel => exact ⟨i + 1, by omega, by go_num, HS.out⟩
          case measure => simp [intOf]; omega
    · have hiS : many = i := by omega
      subst hiS
      have HW := Lib.hid (Words_any (by rw [plW_len]; omega) HO.out.swap)
      go_wp2_with fail
      refine HW.out.mono ?_
      rintro e w4 ⟨v4, rfl, hO⟩
      have HS := Lib.hid (SameInts_yes hO.intsAt ((hO.p2.wRow (plW_len l _) (by omega)).asInts (plW_len l _)) (by rw [plW_len]; omega))
      have HO2 := Lib.hid hO.swap
      clear HW hO
      go_wp2_with fail
      refine HS.out.mono ?_
      rintro e w5 ⟨rfl, hD⟩
      have HL := Lib.hid (Log_any (by have := Hlg.out; omega) (HO2.out.below hD.below))
      clear HS HO2 hD
      go_wp2_with fail
      refine HL.out.mono ?_
      rintro e w6 ⟨v6, rfl, hO⟩
      obtain ⟨p6, c6, rfl⟩ := row_slice hO
      have hB := Lib.hid hO.toBelow
      rw [Hlg.out]
      clear HL hO
      go_wp2_with fail
      go_ret
      exact ⟨rfl, hB.out⟩
theorem MemPlay_gt (W : World) (many most : Nat) (h1 : 0 < many) (h2 : many ≤ 255) (h3 : most ≤ 255) (hmm : most < many) (p : Option Addr) (cap : Nat) (l : List Pk) (hl : l.length ≤ 50) (hv : PksAt W (.slice p l.length cap) l) :
    Calls Try.prog 6 #[.int .u8 many, .int .u8 most, .slice p l.length cap] W fun e w' => e = .returned (.bool true) ∧ Below W.heap.size W w' := by
  have Hh := Lib.hid (head_any (Own.start W))
  have HV := Lib.hid hv
  have hF1 : ((many : Int) == 0) = false := by rw [beq_eq_false_iff_ne]; omega
  clear hv
  go_enter Try.func6, Try.ntmps6
  go_wp2_with fail
  refine Hh.out.mono ?_
  rintro e w1 ⟨rfl, hO⟩
  have H1 := Lib.hid (New_any 2 (by omega) hO)
  clear hO Hh
  go_wp2_with fail
  refine H1.out.mono ?_
  rintro e w2 ⟨m, rfl, hO⟩
  have hO2 := hO.new (.cells #[.int .i64 (1 : Nat), .int .i64 many, .int .i64 0] 49)
  have H2 := Lib.hid (Adder_play w2.heap.size m (.slice p l.length cap) ⟨1, many, 0⟩ [0, 0] [] l most (by omega) (HV.out.below hO2.toBelow) (by omega) (by simp) (by show many ≤ 300; omega) (by simp) hO2)
  obtain ⟨last, lg, hr, hlg⟩ := adder_run w2.heap.size l many most 0 0 [] h1 rfl
  rw [Nat.sub_zero, Nat.zero_add] at hr
  change playF (adder w2.heap.size) l most 0 ⟨1, many, 0⟩ [0, 0] [] = _ at hr
  rw [Int.toNat_natCast, hr] at H2
  rw [Nat.zero_add] at hlg
  have Hlg := Lib.hid hlg
  clear hO H1 hr hO2 hlg
  rw [show min many most = most by omega, show decide (many ≤ most) = false by simp; omega] at H2
  rw [show min many most = most by omega] at Hlg
  go_wp2_with fail
  refine H2.out.mono ?_
  rintro e w3 ⟨rfl, hO⟩
  have hO : Own W NoF [memA 60 m (plW l most) lg] w3 := hO.drop
  have HM := Lib.hid (show Own W NoF [wB w3.heap.size (plW l 0), memA 60 m (plW l most) lg] _ from hO.new (.cells #[.int .i64 0, .int .i64 0] 3))
  clear H2 hO
  go_wp2_with fail
  generalize w3.heap.size = c at HM ⊢
  go_loopw [14] (fun vi wr => ∃ i : Nat, i ≤ most ∧ vi = .int .i64 i ∧ Own W NoF [wB c (plW l i), memA 60 m (plW l most) lg] wr) (fun vi _ => most - (intOf vi).toNat)
  case atStart => exact ⟨0, by omega, rfl, HM.out⟩
  case round =>
    obtain ⟨i, hi, rfl, hO⟩ := hrel
    have HO := Lib.hid hO
    clear HM hO
    by_cases hlt : i < most
    · have HO2 := Lib.hid (show Own W NoF [wB c (pokesAt i (l.take 0) (plW l i)), memA 60 m (plW l most) lg] wr from HO.out)
      clear HO
      go_wp2_with fail
      go_loopw [15] (fun vk wr => ∃ k : Nat, k ≤ l.length ∧ vk = .int .i64 k ∧ Own W NoF [wB c (pokesAt i (l.take k) (plW l i)), memA 60 m (plW l most) lg] wr) (fun vk _ => l.length - (intOf vk).toNat)
      case atStart => exact ⟨0, by omega, rfl, HO2.out⟩
      case round =>
        obtain ⟨k, hk, rfl, hO⟩ := hrel
        have HO := Lib.hid hO
        clear HO2
        by_cases hkl : k < l.length
        · obtain ⟨b, off, rfl, hbW, hc⟩ := (HV.out.below hO.toBelow).at (by rw [pkC_len]; omega) (by omega)
          have hlen : (pokesAt i (l.take k) (plW l i)).length = 2 := by rw [pokesAt_len, plW_len]
          have Hnx := Lib.hid (pokes_take (t := (i : Int)) hkl (plW l i))
          obtain ⟨x, hx⟩ : ∃ x, x = l.getD k default := ⟨_, rfl⟩
          have e := fun j hj => pkC_get l k j hkl hj
          rw [← hx] at e Hnx
          have x0 : wr.cell? ⟨b, off + k * 3, none⟩ = some (.int .i64 x.at_) := hc (k * 3 + 0) _ (e 0 (by omega))
          have x1 : wr.cell? ⟨b, off + k * 3 + 1, none⟩ = some (.int .i64 x.w) := hc (k * 3 + 1) _ (e 1 (by omega))
          have x2 : wr.cell? ⟨b, off + k * 3 + 2, none⟩ = some (.int .i64 x.x) := hc (k * 3 + 2) _ (e 2 (by omega))
          clear hc e hx
          generalize pokesAt i (l.take k) (plW l i) = ws at HO hlen Hnx hO
          have Hlen := Lib.hid hlen
          by_cases hat : x.at_ = i
          · by_cases hw : 0 ≤ x.w ∧ x.w < 2
            · obtain ⟨hw0, hw1⟩ := hw
              obtain ⟨q, hq⟩ := Int.eq_ofNat_of_zero_le hw0
              have hq2 : q < 2 := by omega
              have hnx := Hnx.out
              rw [if_pos hat, pokeW, if_pos ⟨hw0, by omega⟩, hq, Int.toNat_natCast] at hnx
              have Hnx2 := Lib.hid hnx
              have wcell : wr.cell? ⟨c, q, none⟩ = some (.int .i64 (ws.getD q 0)) := hO.wAt q (by omega)
              have wfr : wr.frozen? ⟨c, q, none⟩ = false := Own.unfrozen hO
              have HS := Lib.hid (hO.wSet q x.x)
              rw [hq] at x1 hw0 hw1
              have hF : (x.at_ == (i : Int)) = true := by rw [beq_iff_eq]; exact hat
              clear hnx hlen hat hq hO Hnx
              generalize ws.getD q 0 = old at wcell
              go_wp2_with fail
              go_region
              all_goals
                have hO := HS.out.drew
                rw [← Hnx2.out] at hO
                have HO3 := Lib.hid hO
                clear hO x0 x1 x2 wcell wfr
                go_wp2_with fail
                go_roundw
                case rel => exact ⟨k + 1, by omega, by go_num, HO3.out⟩
                case measure => simp [intOf]; omega
            · have hnx := Hnx.out
              rw [if_pos hat, pokeW, if_neg (by omega)] at hnx
              have Hnx2 := Lib.hid hnx
              have hF : (x.at_ == (i : Int)) = true := by rw [beq_iff_eq]; exact hat
              clear hnx hlen hat hO Hnx
              by_cases hw0 : 0 ≤ x.w
              all_goals
                try (have hw1 : 2 ≤ x.w := by omega)
                clear hw
                go_wp2_with fail
                go_roundw
                case rel => exact ⟨k + 1, by omega, by go_num, by rw [Hnx2.out]; exact HO.out⟩
                case measure => simp [intOf]; omega
          · have hnx := Hnx.out
            rw [if_neg hat] at hnx
            have Hnx2 := Lib.hid hnx
            have hF : (x.at_ == (i : Int)) = false := by rw [beq_eq_false_iff_ne]; exact hat
            clear hnx hlen hat hO Hnx
            go_wp2_with fail
            go_roundw
            case rel => exact ⟨k + 1, by omega, by go_num, by rw [Hnx2.out]; exact HO.out⟩
            case measure => simp [intOf]; omega
        · rw [List.take_of_length_le (by omega)] at hO
          have hl1 : (pokesAt i l (plW l i)).length = 2 := by rw [pokesAt_len, plW_len]
          have wcell : wr.cell? ⟨c, 1, none⟩ = some (.int .i64 ((pokesAt i l (plW l i)).getD 1 0)) := hO.wAt 1 (by omega)
          have wfr : wr.frozen? ⟨c, 1, none⟩ = false := Own.unfrozen hO
          have HS := Lib.hid (show Own W NoF [wB c (plW l (i + 1)), memA 60 m (plW l most) lg] _ from hO.wSet 1 (wrap64 ((pokesAt i l (plW l i)).getD 1 0 + 1)))
          clear hO HO hl1
          generalize (pokesAt i l (plW l i)).getD 1 0 = old at wcell HS
          go_wp2_with fail
          go_roundw
          case rel => exact ⟨i + 1, by omega, by go_num, HS.out⟩
          case measure => simp [intOf]; omega
    · have hiS : most = i := by omega
      subst hiS
      have HW := Lib.hid (Words_any (by rw [plW_len]; omega) HO.out.swap)
      go_wp2_with fail
      refine HW.out.mono ?_
      rintro e w4 ⟨v4, rfl, hO⟩
      have HS := Lib.hid (SameInts_yes hO.intsAt ((hO.p2.wRow (plW_len l _) (by omega)).asInts (plW_len l _)) (by rw [plW_len]; omega))
      have HO2 := Lib.hid hO.swap
      clear HW hO
      go_wp2_with fail
      refine HS.out.mono ?_
      rintro e w5 ⟨rfl, hD⟩
      have HL := Lib.hid (Log_any (by have := Hlg.out; omega) (HO2.out.below hD.below))
      clear HS HO2 hD
      go_wp2_with fail
      refine HL.out.mono ?_
      rintro e w6 ⟨v6, rfl, hO⟩
      obtain ⟨p6, c6, rfl⟩ := row_slice hO
      have hB := Lib.hid hO.toBelow
      rw [Hlg.out]
      have F : decide (many ≤ most) = false := by simp; omega
      clear HL hO
      go_wp2_with fail
      go_ret
      exact ⟨rfl, hB.out⟩
theorem MemPlay_calls (W : World) (many : Int) (l0 : IntKind.u8.min ≤ many) (l1 : many ≤ IntKind.u8.max) (most : Int) (m0 : IntKind.u8.min ≤ most) (m1 : most ≤ IntKind.u8.max) (v : Value) (rows : List (List Int)) (hl : rows.length ≤ maxLen) (hr : ∀ r ∈ rows, r.length = 3)
    (hw : ∀ r ∈ rows, ∀ j, j < 3 → (Lit.int (([.i64, .i64, .i64] : List IntKind).getD j .i64) (r.getD j 0)).wf = true) (hv : RowAt W v rows.length (rowsC [.i64, .i64, .i64] rows)) :
    Calls Try.prog 6 #[.int .u8 many, .int .u8 most, v] W fun e w' => e = .returned (.bool true) ∧ Below W.heap.size W w' := by
  have l0' : 0 ≤ many := l0
  have l1' : many ≤ 255 := l1
  have m0' : 0 ≤ most := m0
  have m1' : most ≤ 255 := m1
  obtain ⟨p, cap, rfl⟩ := hv.slice
  by_cases hbig : 50 < rows.length ∨ many = 0
  · unfold maxLen at hl
    exact MemPlay_big W many most p rows.length cap (by omega) hbig
  · rw [pksOf_C hr] at hv
    have e : rows.length = (pksOf rows).length := by simp [pksOf]
    obtain ⟨a, rfl⟩ := Int.eq_ofNat_of_zero_le l0'
    obtain ⟨b, rfl⟩ := Int.eq_ofNat_of_zero_le m0'
    rw [e] at hv hbig ⊢
    rcases Nat.lt_or_ge b a with h | h
    · exact MemPlay_gt W a b (by omega) (by omega) (by omega) h p cap (pksOf rows) (by omega) hv
    · exact MemPlay_le W a b (by omega) (by omega) (by omega) h p cap (pksOf rows) (by omega) hv
end Go.Proofs.Ytlgobicbclihfaa
