/- breadlinelaw06.Poked: pokes of a counter's words to what may be. -/
import Derived.Test.YtkciaegbiglfmaaAddFacts
import Derived.Test.YtkciaegbiglfmaaPokes
import Derived.Deep.RegionWith
namespace Go.Proofs.Ytkciaegbiglfmaa
open Go.ChangeShapes Go.WideShapes Go.ChangeAt Go.RowKit Go.Shelf
set_option linter.unusedVariables false
set_option maxRecDepth 100000
def pkG (b s : Nat) (g lv : Int) (p : Pk) : List Pk :=
  if p.w < 0 ∨ (b : Int) + 4 + s ≤ p.w then []
  else [⟨p.at_, p.w, if p.w = (b : Int) + 3 then lv else if (b : Int) + 4 ≤ p.w then nxt p.x ((pval p.x).tmod g) else p.x⟩]
def pkL (b s : Nat) (g lv : Int) (l : List Pk) : List Pk := l.flatMap (pkG b s g lv)
def pokedL (c : Cn) (l : List Pk) : List Pk := pkL c.b c.s c.g c.lve l
theorem pkL_take {b s : Nat} {g lv : Int} {l : List Pk} {k : Nat} (hk : k < l.length) : pkL b s g lv (l.take (k + 1)) = pkL b s g lv (l.take k) ++ pkG b s g lv (l.getD k default) := by
  have e : l.getD k default = l[k] := by simp [List.getD, hk]
  rw [List.take_succ_eq_append_getElem hk, e]
  unfold pkL
  rw [List.flatMap_append, List.flatMap_cons, List.flatMap_nil, List.append_nil]
theorem pkG_len {b s : Nat} {g lv : Int} (p : Pk) : (pkG b s g lv p).length ≤ 1 := by unfold pkG; split <;> simp
theorem pkL_len {b s : Nat} {g lv : Int} (l : List Pk) : (pkL b s g lv l).length ≤ l.length := by
  induction l with
  | nil => simp [pkL]
  | cons a l ih => have := pkG_len (b := b) (s := s) (g := g) (lv := lv) a; simp only [pkL, List.flatMap_cons, List.length_append, List.length_cons] at ih ⊢; omega
theorem pkC_snoc (l : List Pk) (p : Pk) : pkC (l ++ [p]) = pkC l ++ [.int .i64 p.at_, .int .i64 p.w, .int .i64 p.x] := by
  unfold pkC; rw [List.flatMap_append]; rfl
/-- What a poke that is let by may be. -/
structure PkOk (p : AP) (q : Pk) : Prop where
  w0 : 0 ≤ q.w
  w1 : q.w < (p.b : Int) + 4 + p.S
  x : I64 q.x
  live : q.w = (p.b : Int) + 3 → Pow8 q.x ∧ q.x ≤ p.S
  gate : (p.b : Int) + 4 ≤ q.w → -p.g < pval q.x ∧ pval q.x < p.g
theorem pkG_ok {p : AP} {b s : Nat} {g lv : Int} (hb : p.b = b) (hS : p.S = s) (hg : p.g = g) (g0 : 1 ≤ g) (g1 : g ≤ 1048576) (hlv : Pow8 lv ∧ lv ≤ s) (q : Pk) (hq : I64 q.x) : ∀ r ∈ pkG b s g lv q, PkOk p r := by
  intro r hr
  unfold pkG at hr
  split at hr
  · simp at hr
  · rename_i h
    rw [List.mem_singleton.1 hr]
    have hlb := hlv.1.bd
    refine ⟨by simp only; omega, by simp only; omega, ?_, fun h3 => ?_, fun h4 => ?_⟩
    · simp only; split
      · unfold I64; omega
      · split
        · exact nxt_I _ _
        · exact hq
    · simp only at h3 ⊢
      rw [if_pos (by omega)]
      exact ⟨hlv.1, by omega⟩
    · simp only at h4 ⊢
      rw [if_neg (by omega), if_pos (by omega)]
      have := tm_bd (pval q.x) g g0
      rw [pval_nxt _ _ (by omega) (by omega), hg]
      exact this
theorem pkL_ok {p : AP} {b s : Nat} {g lv : Int} (hb : p.b = b) (hS : p.S = s) (hg : p.g = g) (g0 : 1 ≤ g) (g1 : g ≤ 1048576) (hlv : Pow8 lv ∧ lv ≤ s) (l : List Pk) (hl : ∀ q ∈ l, I64 q.x) : ∀ r ∈ pkL b s g lv l, PkOk p r := by
  intro r hr
  obtain ⟨q, hq, hr⟩ := List.mem_flatMap.1 hr
  exact pkG_ok hb hS hg g0 g1 hlv q (hl q hq) r hr
theorem pokeW_ok {p : AP} {ws : List Int} (hp : p.Ok) (hw : WOk p ws) (q : Pk) (hq : PkOk p q) : WOk p (pokeW ws q) := by
  unfold pokeW
  split
  · rename_i h
    have := hq.w1
    exact hw.set _ _ hq.x (fun e => hq.live (by omega)) (fun j e hj => hq.gate (by omega))
  · exact hw
theorem pokesAt_ok {p : AP} (hp : p.Ok) {l : List Pk} (hl : ∀ q ∈ l, PkOk p q) (t : Int) {ws : List Int} (hw : WOk p ws) : WOk p (pokesAt t l ws) := by
  unfold pokesAt
  have h2 : ∀ q ∈ l.filter (fun p => p.at_ == t), PkOk p q := fun q hq => hl q (List.mem_filter.1 hq).1
  generalize l.filter (fun p => p.at_ == t) = m at h2
  induction m generalizing ws with
  | nil => exact hw
  | cons a m ih => rw [List.foldl_cons]; exact ih (pokeW_ok hp hw a (h2 a (by simp))) (fun q hq => h2 q (by simp [hq]))
set_option maxHeartbeats 8000000 in
theorem Poked_any {W w : World} {L : List Asn} (c : Cn) (vr vl v : Value) (hc : c.Wf) (l : List Pk) (hl : l.length ≤ 1000) (hx : ∀ p ∈ l, I64 p.x) (hv : PksAt W v l) (h : Own W NoF L w) :
    Calls Try.prog 12 #[cnV c vr vl, v] w (RetRow W NoF L 61 3 (pokedL c l).length (pkC (pokedL c l))) := by
  obtain ⟨i0, hi0, hz0, hz1, hz2⟩ := info_parts Try.info_pk
  have HSz := fun w => Lib.hid (Size_any c vr vl hc w)
  have hb := c.bE hc
  have hs := c.sE
  have hg := c.gE hc
  have H1 := Lib.hid (h.new (cnO c vr vl))
  have HF0 := Lib.hid (show pkL c.b c.s c.g c.lve (l.take 0) = [] from rfl)
  have HFe := Lib.hid (show pkL c.b c.s c.g c.lve (l.take l.length) = pokedL c l by rw [List.take_length]; rfl)
  have HFs := Lib.hid (show ∀ k, k < l.length → pkL c.b c.s c.g c.lve (l.take (k + 1)) = pkL c.b c.s c.g c.lve (l.take k) ++ pkG c.b c.s c.g c.lve (l.getD k default) from fun k hk => pkL_take hk)
  have HFl := Lib.hid (show ∀ k, k ≤ l.length → (pkL c.b c.s c.g c.lve (l.take k)).length ≤ k from fun k hk => by have := pkL_len (b := c.b) (s := c.s) (g := c.g) (lv := c.lve) (l.take k); rw [List.length_take] at this; omega)
  have HX0 := Lib.hid (show ∀ k, k < l.length → I64 (l.getD k default).x from fun k hk => hx _ (by simp [List.getD, hk]))
  obtain ⟨p, cap, rfl⟩ := hv.slice
  have HV := Lib.hid hv
  simp only [cnV] at HSz ⊢
  rw [hb.1, hs.1, show c.ga % 40 + 1 = c.g from rfl] at HSz
  obtain ⟨F, hF⟩ : ∃ F : Nat → List Pk, F = fun k => pkL c.b c.s c.g c.lve (l.take k) := ⟨_, rfl⟩
  rw [← congrFun hF 0] at HF0
  rw [← congrFun hF l.length] at HFe
  have HFs2 := Lib.hid (show ∀ k, k < l.length → F (k + 1) = F k ++ pkG c.b c.s c.g c.lve (l.getD k default) from fun k hk => by rw [hF]; exact HFs.out k hk)
  have HFl2 := Lib.hid (show ∀ k, k ≤ l.length → (F k).length ≤ k from fun k hk => by rw [hF]; exact HFl.out k hk)
  clear HFs HFl hF h hx hv
  generalize c.b = b at *
  generalize c.g = g at *
  generalize c.s = s at *
  generalize c.lve = lv at *
  generalize pokedL c l = R at *
  obtain ⟨-, hb⟩ := hb
  obtain ⟨-, hs0, hs1⟩ := hs
  unfold cnO at H1
  go_enter Try.func12, Try.ntmps12
  obtain ⟨c0, c1, c2, c3, c4, c5, c6⟩ := cnCells H1.out
  go_wp2_with fail
  refine (HSz _).out.mono ?_
  rintro e w1 ⟨rfl, hB⟩
  have hO : Own W NoF (row (.slice none 0 0) 61 3 0 [] :: L) w1 := (H1.out.below hB).drop.rowNil
  have HO := Lib.hid hO
  clear c0 c1 c2 c3 c4 c5 c6 H1 HSz hB hO
  go_wp2_with fail
  go_loopw [9, 10, 11] (fun v9 v10 v11 wr => ∃ k : Nat, k ≤ l.length ∧ v10 = .int .i64 k ∧ Own W NoF (row v9 61 3 (F k).length (pkC (F k)) :: L) wr) (fun v9 v10 v11 _ => l.length - (intOf v10).toNat)
  case atStart => exact ⟨0, Nat.zero_le _, rfl, by rw [HF0.out]; exact HO.out⟩
  case round =>
    obtain ⟨k, hk, rfl, hO⟩ := hrel
    clear HO HF0
    by_cases hlt : k < l.length
    · obtain ⟨bp, op, rfl, hbW, hcp⟩ := (HV.out.below hO.toBelow).at (by rw [pkC_len]; omega) (by omega)
      obtain ⟨x, hx⟩ : ∃ x, x = l.getD k default := ⟨_, rfl⟩
      have e := fun j hj => pkC_get l k j hlt hj
      have hnx := HFs2.out k hlt
      have hxI := HX0.out k hlt
      rw [← hx] at e hnx hxI
      have x0 : wr.cell? ⟨bp, op + k * 3, none⟩ = some (.int .i64 x.at_) := hcp (k * 3 + 0) _ (e 0 (by omega))
      have x1 : wr.cell? ⟨bp, op + k * 3 + 1, none⟩ = some (.int .i64 x.w) := hcp (k * 3 + 1) _ (e 1 (by omega))
      have x2 : wr.cell? ⟨bp, op + k * 3 + 2, none⟩ = some (.int .i64 x.x) := hcp (k * 3 + 2) _ (e 2 (by omega))
      clear hcp e hx
      have hkl := HFl2.out k hk
      have Hmx := Lib.hid (show (F k).length + 1 ≤ maxLen by unfold maxLen; omega)
      have Hmy := Lib.hid (show ((F k).length + 1) * 24 ≤ 140737488355328 by omega)
      obtain ⟨v9c, v9n, rfl⟩ := row_slice hO
      have HX := Lib.hid (hO.new (.cells #[.int .i64 x.at_, .int .i64 x.w, .int .i64 x.x] 61)).swap
      have y0 : (wr.alloc (.cells #[.int .i64 x.at_, .int .i64 x.w, .int .i64 x.x] 61)).cell? ⟨wr.heap.size, 0, none⟩ = some (.int .i64 x.at_) := HX.out.swap.cell (i := 0) rfl
      have y1 : (wr.alloc (.cells #[.int .i64 x.at_, .int .i64 x.w, .int .i64 x.x] 61)).cell? ⟨wr.heap.size, 1, none⟩ = some (.int .i64 x.w) := HX.out.swap.cell (i := 1) rfl
      have y2 : (wr.alloc (.cells #[.int .i64 x.at_, .int .i64 x.w, .int .i64 x.x] 61)).cell? ⟨wr.heap.size, 2, none⟩ = some (.int .i64 x.x) := HX.out.swap.cell (i := 2) rfl
      have yf : (wr.alloc (.cells #[.int .i64 x.at_, .int .i64 x.w, .int .i64 x.x] 61)).frozen? ⟨wr.heap.size, 2, none⟩ = false := HX.out.swap.unfrozen
      have hO2 := Lib.hid hO
      clear hO
      unfold pkG at hnx
      by_cases hw0 : x.w < 0
      · rw [if_pos (Or.inl hw0), List.append_nil] at hnx
        have Hnx := Lib.hid hnx
        clear hnx
        go_wp2_with fail
        go_roundw
        case rel => exact ⟨k + 1, by omega, by go_num, by rw [Hnx.out]; exact HX.out.under fun _ _ h => h.drop⟩
        case measure => simp [intOf]; omega
      · by_cases hw1 : (b : Int) + 4 + s ≤ x.w
        · rw [if_pos (Or.inr hw1), List.append_nil] at hnx
          have Hnx := Lib.hid hnx
          clear hnx
          go_wp2_with fail
          go_roundw
          case rel => exact ⟨k + 1, by omega, by go_num, by rw [Hnx.out]; exact HX.out.under fun _ _ h => h.drop⟩
          case measure => simp [intOf]; omega
        · rw [if_neg (by omega)] at hnx
          have g0 : decide ((b : Int) + 4 + s ≤ x.w) = false := by simp; omega
          have hw2 : x.w < (b : Int) + 4 + s := by omega
          clear hw1
          by_cases hw3 : x.w = (b : Int) + 3
          · rw [if_pos hw3] at hnx
            have Hnx := Lib.hid hnx
            have Hnl := Lib.hid (show (F (k + 1)).length = (F k).length + 1 by rw [hnx]; simp)
            have f3 : (x.w == (b : Int) + 3) = true := by rw [beq_iff_eq]; exact hw3
            have HX := Lib.hid (hO2.out.new (.cells #[.int .i64 x.at_, .int .i64 x.w, .int .i64 lv] 61)).swap
            have z0 := HX.out.swap.cell (i := 0) rfl
            have z1 := HX.out.swap.cell (i := 1) rfl
            have z2 := HX.out.swap.cell (i := 2) rfl
            have f4 : decide ((b : Int) + 4 ≤ x.w) = false := by simp; omega
            clear hnx hw3
            go_wp2_with (at_builtin; refine wpList_append_row rfl (.tmp 65) (.tmp 67) 27 rfl 61 i0 _ Try.underlying27 hi0 hz0 hz1 hz2 rfl (by decide) rfl (HX.out.alloc _) ⟨wr.heap.size + 1, 0, none⟩ 1 1 [.int .i64 x.at_, .int .i64 x.w, .int .i64 lv] rfl rfl (news_at _ [.int .i64 x.at_, .int .i64 x.w, .int .i64 lv] _ _ (by simp)) (by simp [Value.oneCell']) Hmx.out Hmy.out ?_; intro v' w6 hO6 hg hn)
            rw [← pkC_snoc _ ⟨x.at_, x.w, lv⟩, ← Hnx.out, ← Hnl.out] at hO6
            have HO6 := Lib.hid (show Own W NoF (row v' 61 3 (F (k + 1)).length (pkC (F (k + 1))) :: L) w6 from hO6.under fun _ _ h => h.drop)
            clear hO6 hg hn HX
            go_roundw
            case rel => exact ⟨k + 1, by omega, by go_num, HO6.out⟩
            case measure => simp [intOf]; omega
          · have f3 : (x.w == (b : Int) + 3) = false := beq_f hw3
            rw [if_neg hw3] at hnx
            clear hw3
            by_cases hw4 : (b : Int) + 4 ≤ x.w
            · rw [if_pos hw4] at hnx
              have Hnx := Lib.hid hnx
              have Hnl := Lib.hid (show (F (k + 1)).length = (F k).length + 1 by rw [hnx]; simp)
              have f4 : decide ((b : Int) + 4 ≤ x.w) = true := by simp; omega
              have hpv := pval_bd x.x
              have htm := tm_bd (pval x.x) g (by omega)
              have HVl := fun w => Lib.hid (rValue_any x.x hxI.1 hxI.2 w)
              have HNx := fun w => Lib.hid (rNext_yes x.x ((pval x.x).tmod g) (by omega) (by omega) hxI.1 hxI.2 w)
              unfold nxt at Hnx
              generalize sg (pmk ((pver x.x + 1) % 4294967296) ((pval x.x).tmod g)) = nv at *
              clear hnx
              go_wp2_with fail
              go_region_with (first | (go_at_call 28; refine (HVl _).out.mono ?_; rintro e w5 ⟨rfl, rfl⟩) | (go_at_call 32; refine (HNx _).out.mono ?_; rintro e w6 ⟨rfl, rfl⟩))
              all_goals
                have HX := Lib.hid (hO2.out.new (.cells #[.int .i64 x.at_, .int .i64 x.w, .int .i64 nv] 61)).swap
                have z0 := HX.out.swap.cell (i := 0) rfl
                have z1 := HX.out.swap.cell (i := 1) rfl
                have z2 := HX.out.swap.cell (i := 2) rfl
                clear y0 y1 y2 yf
                go_wp2_with (at_builtin; refine wpList_append_row rfl (.tmp 65) (.tmp 67) 27 rfl 61 i0 _ Try.underlying27 hi0 hz0 hz1 hz2 rfl (by decide) rfl (HX.out.drew.alloc _) ⟨wr.heap.size + 1, 0, none⟩ 1 1 [.int .i64 x.at_, .int .i64 x.w, .int .i64 nv] rfl rfl (news_at _ [.int .i64 x.at_, .int .i64 x.w, .int .i64 nv] _ _ (by simp)) (by simp [Value.oneCell']) Hmx.out Hmy.out ?_; intro v' w6 hO6 hg hn)
                rw [← pkC_snoc _ ⟨x.at_, x.w, nv⟩, ← Hnx.out, ← Hnl.out] at hO6
                have HO6 := Lib.hid (show Own W NoF (row v' 61 3 (F (k + 1)).length (pkC (F (k + 1))) :: L) w6 from hO6.under fun _ _ h => h.drop)
                clear hO6 hg hn HX
                go_roundw
                case rel => exact ⟨k + 1, by omega, by go_num, HO6.out⟩
                case measure => simp [intOf]; omega
            · have f4 : decide ((b : Int) + 4 ≤ x.w) = false := by simp; omega
              rw [if_neg hw4] at hnx
              have Hnx := Lib.hid hnx
              have Hnl := Lib.hid (show (F (k + 1)).length = (F k).length + 1 by rw [hnx]; simp)
              clear hnx hw4
              go_wp2_with (at_builtin; refine wpList_append_row rfl (.tmp 65) (.tmp 67) 27 rfl 61 i0 _ Try.underlying27 hi0 hz0 hz1 hz2 rfl (by decide) rfl (HX.out.alloc _) ⟨wr.heap.size + 1, 0, none⟩ 1 1 [.int .i64 x.at_, .int .i64 x.w, .int .i64 x.x] rfl rfl (news_at _ [.int .i64 x.at_, .int .i64 x.w, .int .i64 x.x] _ _ (by simp)) (by simp [Value.oneCell']) Hmx.out Hmy.out ?_; intro v' w6 hO6 hg hn)
              rw [← pkC_snoc _ ⟨x.at_, x.w, x.x⟩, ← Hnx.out, ← Hnl.out] at hO6
              have HO6 := Lib.hid (show Own W NoF (row v' 61 3 (F (k + 1)).length (pkC (F (k + 1))) :: L) w6 from hO6.under fun _ _ h => h.drop)
              clear hO6 hg hn HX
              go_roundw
              case rel => exact ⟨k + 1, by omega, by go_num, HO6.out⟩
              case measure => simp [intOf]; omega
    · obtain rfl : k = l.length := by omega
      have HO := Lib.hid hO
      obtain ⟨v9c, v9n, rfl⟩ := row_slice hO
      clear hO
      go_wp2_with fail
      go_ret
      rw [← HFe.out]
      exact ⟨_, rfl, HO.out⟩
end Go.Proofs.Ytkciaegbiglfmaa
