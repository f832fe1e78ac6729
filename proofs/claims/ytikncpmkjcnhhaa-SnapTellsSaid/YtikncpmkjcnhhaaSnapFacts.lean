/- A count among pokes: it only loads, and ends behind as many tries as may be. No program in it. breadlinelaw07's laid and head. What plays of package snap's machines come to. A count alone, played: calm, or not. -/
import Derived.Test.YtikncpmkjcnhhaaSnapTry
import Derived.Test.YtikncpmkjcnhhaaSnapMach
import Derived.Test.YtikncpmkjcnhhaaPokes
import Derived.Test.YtikncpmkjcnhhaaAddHead
import Derived.Test.YtikncpmkjcnhhaaAddBase
namespace Go.Proofs.Ytikncpmkjcnhhaa
section
open Go.RowKit
set_option linter.unusedVariables false
/-- An access that loads a word of the counter. -/
def LoadOf (b S : Nat) (e : Acc) : Prop := e.kind = 1 ∧ (b : Int) ≤ e.w ∧ e.w < (b : Int) + 4 + S
/-- So much was loaded of the global word. -/
def Told (b : Nat) (lg : List Acc) (y : Int) : Prop := ∃ e ∈ lg, e.kind = 1 ∧ e.w = (b : Int) ∧ e.a = y
theorem Told.more {b : Nat} {lg : List Acc} {y : Int} (h : Told b lg y) (e : Acc) : Told b (lg ++ [e]) y := by
  obtain ⟨x, hx, k⟩ := h; exact ⟨x, List.mem_append_left _ hx, k⟩
structure LInv (b S r t : Nat) (s : SS) (lg : List Acc) : Prop where
  open_ : s.fin = false
  got : s.got.length < 4 + 2 * S
  l0 : 1 ≤ s.left
  l1 : s.left ≤ r
  time : (r - s.left) * (4 + 2 * S) + s.got.length = t
  told : 3 ≤ s.got.length → Told b lg (s.got.getD 2 0)
  all : ∀ e ∈ lg, LoadOf b S e
  len : lg.length = t
structure LEnd (b S r n : Nat) (s : SS) (lg : List Acc) : Prop where
  fin : s.fin = true
  all : ∀ e ∈ lg, LoadOf b S e
  len : lg.length = n
  most : n ≤ r * (4 + 2 * S)
  whole : n % (4 + 2 * S) = 0
  told : s.ex = true ∨ (Told b lg s.n ∧ n = r * (4 + 2 * S))
theorem LInv.step {b S r t : Nat} {s : SS} {lg : List Acc} (hS : 1 ≤ S) (h : LInv b S r t s lg) (ws : List Int) :
    (loadS b S s ws).fin = false ∧ LInv b S r (t + 1) (loadS b S s ws) (lg ++ [⟨1, (wd b S s.got.length : Nat), ws.getD (wd b S s.got.length) 0, 0, false⟩]) ∨
    LEnd b S r (t + 1) (loadS b S s ws) (lg ++ [⟨1, (wd b S s.got.length : Nat), ws.getD (wd b S s.got.length) 0, 0, false⟩]) := by
  obtain ⟨got, left, fin, n, ex⟩ := s
  obtain ⟨h0, h1, h2, h3, h4, h5, h6, h7⟩ := h
  simp only at h0 h1 h2 h3 h4 h5 h6 h7 ⊢
  have hw := wd_in b S got.length h1
  generalize hy : ws.getD (wd b S got.length) 0 = y
  have hall : ∀ e ∈ lg ++ [(⟨1, (wd b S got.length : Nat), y, 0, false⟩ : Acc)], LoadOf b S e := fun e he => by
    rcases List.mem_append.1 he with he | he
    · exact h6 e he
    · rw [List.mem_singleton.1 he]; exact ⟨rfl, by simp only; omega, by simp only; omega⟩
  have hlen : (lg ++ [(⟨1, (wd b S got.length : Nat), y, 0, false⟩ : Acc)]).length = t + 1 := by rw [List.length_append, h7]; rfl
  have htold : 3 ≤ (got ++ [y]).length → Told b (lg ++ [(⟨1, (wd b S got.length : Nat), y, 0, false⟩ : Acc)]) ((got ++ [y]).getD 2 0) := fun h => by
    rw [List.length_append, List.length_singleton] at h
    by_cases h2 : got.length = 2
    · have e2 : wd b S got.length = b := by rw [h2]; unfold wd; rw [if_neg (by omega), if_neg (by omega), if_pos rfl]
      refine ⟨_, List.mem_append_right _ (List.mem_singleton.2 rfl), rfl, by simp only; rw [e2], ?_⟩
      simp only [List.getD, List.getElem?_append_right (show got.length ≤ 2 by omega), h2]; rfl
    · have e3 : (got ++ [y]).getD 2 0 = got.getD 2 0 := by simp only [List.getD, List.getElem?_append_left (show 2 < got.length by omega)]
      rw [e3]; exact (h5 (by omega)).more _
  by_cases hc : got.length + 1 = 4 + 2 * S
  · have htime : (r - left + 1) * (4 + 2 * S) = t + 1 := by rw [Nat.add_mul, Nat.one_mul]; omega
    have hmost : t + 1 ≤ r * (4 + 2 * S) := by rw [← htime]; exact Nat.mul_le_mul_right _ (by omega)
    have hwhole : (t + 1) % (4 + 2 * S) = 0 := by rw [← htime]; exact Nat.mul_mod_left _ _
    have he : loadS b S ⟨got, left, fin, n, ex⟩ ws = closeS S ⟨got, left, fin, n, ex⟩ (got ++ [y]) := by unfold loadS; simp only; rw [if_pos hc, hy]
    rw [he]
    unfold closeS
    by_cases ho : okG S (got ++ [y]) = true
    · rw [if_pos ho]; exact Or.inr ⟨rfl, hall, hlen, hmost, hwhole, Or.inl rfl⟩
    · rw [if_neg ho]
      by_cases hl : left = 1
      · rw [if_pos hl]
        refine Or.inr ⟨rfl, hall, hlen, hmost, hwhole, Or.inr ⟨htold (by simp; omega), ?_⟩⟩
        rw [← htime]; congr 1; omega
      · rw [if_neg hl]
        refine Or.inl ⟨rfl, rfl, by simp only [List.length_nil]; omega, by simp only; omega, by simp only; omega, ?_, fun h => by simp at h, hall, hlen⟩
        simp only [List.length_nil]
        rw [show r - (left - 1) = r - left + 1 by omega, htime]
  · have he : loadS b S ⟨got, left, fin, n, ex⟩ ws = ⟨got ++ [y], left, false, n, ex⟩ := by unfold loadS; simp only; rw [if_neg hc, hy]
    rw [he]
    exact Or.inl ⟨rfl, rfl, by simp only [List.length_append, List.length_singleton]; omega, h2, h3, by simp only [List.length_append, List.length_singleton]; omega, htold, hall, hlen⟩
theorem loads_any {M : Mach SS} {b S : Nat} (hM : M.step = stepS b S) (hS : 1 ≤ S) (l : List Pk) (r : Nat) : ∀ (f t : Nat) (s : SS) (ws : List Int) (lg : List Acc), LInv b S r t s lg → r * (4 + 2 * S) ≤ t + f →
    ∃ (n : Nat) (s' : SS) (ws' : List Int) (lg' : List Acc), playF M l f t s ws lg = (n, true, s', ws', lg') ∧ LEnd b S r n s' lg'
  | 0, t, s, ws, lg, h, hf => by
    exfalso
    have h1 := h.time
    have h2 := h.got
    have h3 : (r - s.left) * (4 + 2 * S) ≤ (r - 1) * (4 + 2 * S) := Nat.mul_le_mul_right _ (by have := h.l0; omega)
    have h4 : (r - 1) * (4 + 2 * S) + (4 + 2 * S) = r * (4 + 2 * S) := by
      rw [← Nat.succ_mul]; congr 1; have := h.l0; have := h.l1; omega
    omega
  | f + 1, t, s, ws, lg, h, hf => by
    have hst : M.step s (pokesAt t l ws) lg = (loadS b S s (pokesAt t l ws), pokesAt t l ws, lg ++ [⟨1, (wd b S s.got.length : Nat), (pokesAt t l ws).getD (wd b S s.got.length) 0, 0, false⟩], (loadS b S s (pokesAt t l ws)).fin) := by
      rw [hM]; unfold stepS; rw [if_neg (by rw [h.open_]; decide)]
    rcases h.step hS (pokesAt t l ws) with ⟨hfin, hi⟩ | he
    · rw [hfin] at hst
      rw [playF_step hst]
      exact loads_any hM hS l r f (t + 1) _ _ _ hi (by omega)
    · rw [he.fin] at hst
      rw [playF_end hst]
      exact ⟨_, _, _, _, rfl, he⟩
theorem LInv.start {b S r : Nat} (hS : 1 ≤ S) (hr : 1 ≤ r) : LInv b S r 0 (s0S r) [] :=
  ⟨rfl, by simp [s0S]; omega, hr, Nat.le_refl _, by simp [s0S], fun h => by simp [s0S] at h, fun e he => by simp at he, rfl⟩
end
section
open Go.ChangeShapes Go.WideShapes Go.ChangeAt Go.RowKit Go.Shelf
set_option linter.unusedVariables false
set_option maxRecDepth 100000
variable {w0 w w' : World} {F0 : Nat → Prop} {L : List Asn} {ws : List Int}
theorem laid7_any {v : Value} (h0 : 0 < ws.length) (hn : ws.length ≤ 10000) (h : Own w0 F0 (row v 3 1 ws.length (intC ws) :: L) w) :
    Calls Try.prog 12 #[v] w fun e w' => ∃ m, e = .returned (.pointer (some ⟨m, 0, none⟩)) ∧ Own w0 F0 (memA 95 m ws [] :: row v 3 1 ws.length (intC ws) :: L) w' := by
  obtain ⟨p, cap, rfl⟩ := row_slice h
  have HN := Lib.hid (New_any ws.length hn h)
  have Hn := Lib.hid (lay_zero ws)
  have Hs := Lib.hid (lay_set ws)
  have Hl := Lib.hid (lay_len ws)
  have Ha := Lib.hid (lay_all ws)
  clear h
  go_enter Try.func12, Try.ntmps12
  go_wp2_with fail
  refine HN.out.mono ?_
  rintro e w1 ⟨ma, rfl, hO⟩
  have HO := Lib.hid hO
  clear HN hO
  go_wp2_with fail
  go_loopw [4] (fun v4 wr => ∃ k : Nat, k ≤ ws.length ∧ v4 = .int .i64 k ∧ Own w0 F0 (memA 95 ma (lay ws k) [] :: row (.slice p ws.length cap) 3 1 ws.length (intC ws) :: L) wr) (fun v4 _ => ws.length - (intOf v4).toNat)
  case atStart => exact ⟨0, Nat.zero_le _, rfl, by rw [Hn.out]; exact HO.out⟩
  case round =>
    obtain ⟨k, hk, rfl, hO⟩ := hrel
    by_cases hlt : k < ws.length
    · obtain ⟨b, off, cap', hv, hc⟩ := hO.swap.intsAt.at h0
      injection hv with hv _ hv1
      subst hv hv1
      have c0 := hc k hlt
      have HP := Lib.hid (Poke_yes k (ws.getD k 0) (by rw [Hl.out _ hk]; exact hlt) hO)
      rw [Hs.out k hlt] at HP
      generalize ws.getD k 0 = x at c0 HP
      clear hc hO HO
      go_wp2_with fail
      refine HP.out.mono ?_
      rintro e w2 ⟨rfl, hO⟩
      have HO := Lib.hid hO
      clear hO
      go_wp2_with fail
      go_roundw
      case rel => exact ⟨k + 1, by omega, by go_num, HO.out⟩
      case measure => simp [intOf]; omega
    · obtain rfl : k = ws.length := by omega
      rw [Ha.out] at hO
      have HO2 := Lib.hid hO
      clear hO HO
      go_wp2_with fail
      go_ret
      exact ⟨_, rfl, HO2.out⟩
theorem pokeW_wf {ws : List Int} {p : Pk} (hp : I64 p.x) (hw : ∀ k, I64 (ws.getD k 0)) : ∀ k, I64 ((pokeW ws p).getD k 0) := fun k => by
  unfold pokeW
  split
  · rw [getD_set]; split
    · exact hp
    · exact hw k
  · exact hw k
theorem pokes_ws {b S : Nat} {l : List Pk} (hl : ∀ p ∈ l, I64 p.x) (t : Int) : ∀ ws, WS b S ws → WS b S (pokesAt t l ws) := fun ws h => by
  have key : ∀ (l : List Pk) (ws : List Int), (∀ p ∈ l, I64 p.x) → (∀ k, I64 (ws.getD k 0)) → ∀ k, I64 ((l.foldl pokeW ws).getD k 0) := by
    intro l
    induction l with
    | nil => exact fun ws _ h => h
    | cons p l ih => exact fun ws hl h => ih (pokeW ws p) (fun q hq => hl q (by simp [hq])) (pokeW_wf (hl p (by simp)) h)
  exact ⟨h.S1, h.S8, h.b1, by rw [pokesAt_len]; exact h.len, by rw [pokesAt_len]; exact h.lenm, key _ ws (fun p hp => hl p (List.mem_filter.1 hp).1) h.wf⟩
def h7w : List Int := [5, 1, 1, 2, 3, 4294967300]
def h7p : List Pk := [⟨5, 4, 4294967296⟩, ⟨13, 0, 9⟩, ⟨13, 1, 2⟩]
theorem h7p_ok : ∀ p ∈ h7p, I64 p.x := by
  intro p hp
  simp only [h7p, List.mem_cons, List.not_mem_nil, or_false] at hp
  rcases hp with rfl | rfl | rfl <;> exact ⟨by decide, by decide⟩
theorem h7_ws : WS 0 2 h7w := by
  refine ⟨by decide, by decide, by decide, by decide, by decide, fun k => ?_⟩
  by_cases h : k < 6
  · have key : ∀ k : Fin 6, -9223372036854775808 ≤ h7w.getD k 0 ∧ h7w.getD k 0 ≤ 9223372036854775807 := by decide +kernel
    exact key ⟨k, h⟩
  · rw [getD_out _ _ (by simp [h7w]; omega)]; simp [I64]
theorem h7a (g : Nat) : ∃ s lg, playF (cntM g 0 2) [] 50 0 (s0S 2) h7w [] = (8, true, s, h7w, lg) ∧ s.fin = true ∧ s.n = 12 ∧ s.ex = true ∧ lg.length = 8 := by
  obtain ⟨lg', hl, e⟩ := calm_yes (M := cntM g 0 2) (b := 0) (S := 2) (ws := h7w) rfl (by decide) (by decide) 2 42 0 []
  exact ⟨_, _, e, rfl, by decide +kernel, rfl, hl⟩
theorem h7b (g : Nat) (lg : List Acc) : playF (pkM g 0) [] 50 0 ⟨false, 0⟩ h7w lg = (1, true, ⟨true, 5⟩, h7w, lg ++ [⟨1, 0, 5, 0, false⟩]) := rfl
theorem h7c (g : Nat) (lg : List Acc) : ∃ s ws lg', playF (cntM g 0 2) h7p 50 0 (s0S 2) h7w lg = (16, true, s, ws, lg') ∧ s.fin = true ∧ s.n = 5 ∧ s.ex = false := by
  have h1 : (playF (cntM g 0 2) h7p 50 0 (s0S 2) h7w lg).1 = 16 := by kernel_rfl
  have h2 : (playF (cntM g 0 2) h7p 50 0 (s0S 2) h7w lg).2.1 = true := by kernel_rfl
  have h3 : (playF (cntM g 0 2) h7p 50 0 (s0S 2) h7w lg).2.2.1 = ⟨[], 0, true, 5, false⟩ := by kernel_rfl
  generalize playF (cntM g 0 2) h7p 50 0 (s0S 2) h7w lg = R at h1 h2 h3
  obtain ⟨n, q, s, ws, lg'⟩ := R
  simp only at h1 h2 h3
  subst h1 h2 h3
  exact ⟨_, _, _, rfl, rfl, rfl, rfl⟩
theorem ans_same (n : Int) (x : Bool) (w : World) : (binOp .eql 50 (.agg #[.int .i64 0, .int .i64 n, .bool x, .int .i64 0]) (.agg #[.int .i64 0, .int .i64 n, .bool x, .int .i64 0])).run Try.prog w = .ok (.bool true) w := by
  rw [run_eql_struct]
  simp [go_sem]
theorem ans_differ (n : Int) (x : Bool) (w : World) : (binOp .neq 50 (.agg #[.int .i64 0, .int .i64 n, .bool x, .int .i64 0]) (.agg #[.int .i64 0, .int .i64 n, .bool x, .int .i64 0])).run Try.prog w = .ok (.bool false) w := by
  rw [run_neq_struct]
  simp [go_sem]
theorem head7_any (h : Own w0 F0 L w) : Calls Try.prog 9 #[] w fun e w' => e = .returned (.bool true) ∧ Own w0 F0 L w' := by
  have H0 := Lib.hid (h.new (.cells #[.int .i64 5, .int .i64 1, .int .i64 1, .int .i64 2, .int .i64 3, .int .i64 4294967300] 3))
  clear h
  go_enter Try.func9, Try.ntmps9
  go_wp2_with fail
  generalize World.alloc w _ = w1 at H0 ⊢
  have h0 := H0.out.blkRow (n := 6) (cap := 6) (size := 1) (xs := intC h7w) (Nat.le_refl _) (by decide) rfl rfl rfl
  have H1 := Lib.hid (laid7_any (ws := h7w) (by decide) (by decide) h0)
  clear H0 h0
  refine H1.out.mono ?_
  rintro e w2 ⟨m, rfl, hO⟩
  have hO := hO.under fun _ _ h => h.drop
  have H2 := Lib.hid (Count_any 0 2 2 (by decide) (by decide) (by decide) hO)
  clear hO H1
  go_wp2_with fail
  refine H2.out.mono ?_
  rintro e w3 ⟨g1, rfl, hO⟩
  have hO : Own w0 F0 (cntA g1 0 2 (s0S 2) :: memA 95 m h7w [] :: L) w3 := hO
  have H3 := Lib.hid (Cnt_play g1 m 0 2 _ (s0S 2) h7w [] [] 50 (by decide) (pksAt_nil _) (by decide) (GS.start 2 2 (by decide) (by decide)) h7_ws (by decide) (fun _ _ h => h) hO)
  obtain ⟨s1, lg1, e1, f1, n1, x1, l1⟩ := h7a g1
  rw [show (50 : Int).toNat = 50 from rfl, e1] at H3
  have Hl1 := Lib.hid l1
  clear hO H2 e1 l1
  go_wp2_with fail
  refine H3.out.mono ?_
  rintro e w4 ⟨rfl, hO⟩
  have hO : Own w0 F0 (finA g1 12 true :: memA 95 m h7w lg1 :: L) w4 := by
    simp only [cntM, cntA] at hO
    rw [if_pos f1, n1, x1] at hO
    exact hO
  have H4 := Lib.hid (Peek_any 0 (by decide) hO)
  clear hO H3 f1 n1 x1
  go_wp2_with fail
  refine H4.out.mono ?_
  rintro e w5 ⟨g2, rfl, hO⟩
  have H5 := Lib.hid (Pk_play g2 m 0 _ ⟨false, 0⟩ h7w lg1 [] 50 (by decide) (pksAt_nil _) (by decide) (by decide) (by rw [Hl1.out]; decide) (hO.under fun _ _ h => h.swap))
  rw [show (50 : Int).toNat = 50 from rfl, h7b] at H5
  clear hO H4
  go_wp2_with fail
  refine H5.out.mono ?_
  rintro e w6 ⟨rfl, hO⟩
  have hO : Own w0 F0 (finA g2 5 false :: memA 95 m h7w (lg1 ++ [⟨1, 0, 5, 0, false⟩]) :: finA g1 12 true :: L) w6 := hO
  have H6 := Lib.hid (Count_any 0 2 2 (by decide) (by decide) (by decide) hO)
  clear hO H5
  go_wp2_with fail
  refine H6.out.mono ?_
  rintro e w7 ⟨g3, rfl, hO⟩
  have hO : Own w0 F0 (cntA g3 0 2 (s0S 2) :: memA 95 m h7w (lg1 ++ [⟨1, 0, 5, 0, false⟩]) :: finA g2 5 false :: finA g1 12 true :: L) w7 := hO.under fun _ _ h => h.swap
  have HN := Lib.hid (hO.new (.cells #[.int .i64 5, .int .i64 4, .int .i64 4294967296, .int .i64 13, .int .i64 0, .int .i64 9, .int .i64 13, .int .i64 1, .int .i64 2] 72))
  clear hO H6
  go_wp2_with fail
  generalize World.alloc w7 _ = w8 at HN ⊢
  generalize w7.heap.size = pk at HN ⊢
  have h0 := HN.out.blkRow (n := 3) (cap := 3) (size := 3) (xs := pkC h7p) (Nat.le_refl _) (by decide) rfl rfl rfl
  have H7 := Lib.hid (Cnt_play g3 m 0 2 _ (s0S 2) h7w _ h7p 50 (by decide) (Own.pksAt (zs := h7p) h0) (by decide) (GS.start 2 2 (by decide) (by decide)) h7_ws (by rw [List.length_append, Hl1.out]; decide) (fun t ws h => pokes_ws (l := h7p) h7p_ok t ws h) h0.drop)
  obtain ⟨s3, ws3, lg3, e3, f3, n3, x3⟩ := h7c g3 (lg1 ++ [⟨1, 0, 5, 0, false⟩])
  rw [show (50 : Int).toNat = 50 from rfl, e3] at H7
  clear h0 HN e3
  refine H7.out.mono ?_
  rintro e w9 ⟨rfl, hO⟩
  have hO : Own w0 F0 (finA g3 5 false :: finA g2 5 false :: finA g1 12 true :: L) w9 := by
    simp only [cntM, cntA] at hO
    rw [if_pos f3, n3, x3] at hO
    exact hO.under fun _ _ h => h.drop
  obtain ⟨v1, v2, h1⟩ := hO.p2.fin
  have HA1 := Lib.hid (snAns_any h1)
  have HO := Lib.hid hO
  clear hO h1 H7 f3 n3 x3
  go_wp2_with fail
  refine HA1.out.mono ?_
  rintro e w10 ⟨rfl, hB⟩
  have hO := HO.out.below hB
  unfold ansV
  have q1 := ans_same 12 true
  have q2 := ans_same 5 false
  obtain ⟨v1, v2, h1⟩ := hO.swap.fin
  have HA2 := Lib.hid (snAns_any h1)
  have HO2 := Lib.hid hO
  clear hO h1 HA1 HO hB
  go_wp2_with fail
  refine HA2.out.mono ?_
  rintro e w11 ⟨rfl, hB⟩
  have hO := HO2.out.below hB
  unfold ansV
  obtain ⟨v1, v2, h1⟩ := hO.fin
  have HA3 := Lib.hid (snAns_any h1)
  have HO3 := Lib.hid hO
  clear hO h1 HA2 HO2 hB
  go_wp2_with fail
  refine HA3.out.mono ?_
  rintro e w12 ⟨rfl, hB⟩
  have HO4 := Lib.hid (HO3.out.below hB).drop.drop.drop
  unfold ansV
  clear HA3 HO3 hB
  go_wp2_with fail
  go_ret
  exact ⟨rfl, HO4.out⟩
end
section
open Go.ChangeShapes Go.WideShapes Go.ChangeAt Go.RowKit Go.Shelf
set_option linter.unusedVariables false
set_option maxRecDepth 100000
variable {w0 w w' : World} {F0 : Nat → Prop} {L : List Asn} {T : TypeId} {m : Nat} {ws : List Int} {lg : List Acc}
theorem cplay_inv {b S : Nat} (g : Nat) {l : List Pk} (hl : ∀ (t : Nat) ws, WS b S ws → WS b S (pokesAt t l ws)) : ∀ f (t : Nat) s ws lg, WS b S ws → GS S s →
    WS b S (playF (cntM g b S) l f t s ws lg).2.2.2.1 ∧ (playF (cntM g b S) l f t s ws lg).2.2.2.1.length = ws.length ∧ GS S (playF (cntM g b S) l f t s ws lg).2.2.1 ∧ (playF (cntM g b S) l f t s ws lg).2.2.2.2.length ≤ lg.length + f
  | 0, t, s, ws, lg, hw, hs => ⟨hw, rfl, hs, by simp [playF]⟩
  | f + 1, t, s, ws, lg, hw, hs => by
    have hw2 := hl t ws hw
    have h2 := stepS_ok b S s (pokesAt t l ws) lg hw2.wf hs
    have h3 := stepS_ws b S s (pokesAt t l ws) lg
    have h4 := stepS_log b S s (pokesAt t l ws) lg
    have e : playF (cntM g b S) l (f + 1) t s ws lg = if (stepS b S s (pokesAt t l ws) lg).2.2.2 = true then (t + 1, true, (stepS b S s (pokesAt t l ws) lg).1, (stepS b S s (pokesAt t l ws) lg).2.1, (stepS b S s (pokesAt t l ws) lg).2.2.1)
      else playF (cntM g b S) l f (t + 1) (stepS b S s (pokesAt t l ws) lg).1 (stepS b S s (pokesAt t l ws) lg).2.1 (stepS b S s (pokesAt t l ws) lg).2.2.1 := rfl
    rw [e, h3]
    by_cases hq : (stepS b S s (pokesAt t l ws) lg).2.2.2 = true
    · rw [if_pos hq]; exact ⟨hw2, pokesAt_len _ _ _, h2, by simp only; omega⟩
    · rw [if_neg hq]
      have ih := cplay_inv g hl f (t + 1) (stepS b S s (pokesAt t l ws) lg).1 (pokesAt t l ws) (stepS b S s (pokesAt t l ws) lg).2.2.1 hw2 h2
      exact ⟨ih.1, by rw [ih.2.1, pokesAt_len], ih.2.2.1, by have := ih.2.2.2; omega⟩
theorem loadS_open {b S : Nat} {s : SS} {ws : List Int} (h : (loadS b S s ws).fin = false) : (loadS b S s ws).n = s.n ∧ (loadS b S s ws).ex = s.ex := by
  unfold loadS at h ⊢
  split at h
  · rename_i hc
    rw [if_pos hc]
    unfold closeS at h ⊢
    split at h
    · cases h
    · rename_i ho
      rw [if_neg ho]
      split at h
      · cases h
      · rename_i h1; rw [if_neg h1]; exact ⟨rfl, rfl⟩
  · rename_i hc; rw [if_neg hc]; exact ⟨rfl, rfl⟩
/-- A count alone: words stay, each step is logged; ahead of its end its answer is a zero one. -/
theorem cplay_end {b S : Nat} (g : Nat) : ∀ f (t : Nat) s (ws : List Int) (lg : List Acc), s.fin = false → s.n = 0 → s.ex = false →
    ∃ n q s' lg', playF (cntM g b S) [] f t s ws lg = (n, q, s', ws, lg') ∧ lg'.length + t = lg.length + n ∧ (q = false → n = t + f ∧ s'.fin = false ∧ s'.n = 0 ∧ s'.ex = false) ∧ (q = true → s'.fin = true)
  | 0, t, s, ws, lg, h1, h2, h3 => ⟨t, false, s, lg, rfl, rfl, fun _ => ⟨rfl, h1, h2, h3⟩, fun h => (by cases h)⟩
  | f + 1, t, s, ws, lg, h1, h2, h3 => by
    have hs : stepS b S s ws lg = (loadS b S s ws, ws, lg ++ [⟨1, (wd b S s.got.length : Nat), ws.getD (wd b S s.got.length) 0, 0, false⟩], (loadS b S s ws).fin) := by unfold stepS; rw [if_neg (by rw [h1]; decide)]
    have e : playF (cntM g b S) [] (f + 1) t s ws lg = if (stepS b S s ws lg).2.2.2 = true then (t + 1, true, (stepS b S s ws lg).1, (stepS b S s ws lg).2.1, (stepS b S s ws lg).2.2.1)
      else playF (cntM g b S) [] f (t + 1) (stepS b S s ws lg).1 (stepS b S s ws lg).2.1 (stepS b S s ws lg).2.2.1 := rfl
    rw [e, hs]
    simp only
    by_cases hq : (loadS b S s ws).fin = true
    · rw [if_pos hq]
      exact ⟨_, _, _, _, rfl, by simp; omega, fun h => (by cases h), fun _ => hq⟩
    · rw [if_neg hq]
      have hf : (loadS b S s ws).fin = false := by simpa using hq
      obtain ⟨o1, o2⟩ := loadS_open hf
      obtain ⟨n, q, s', lg', e2, k1, k2, k3⟩ := cplay_end g f (t + 1) (loadS b S s ws) ws (lg ++ [⟨1, (wd b S s.got.length : Nat), ws.getD (wd b S s.got.length) 0, 0, false⟩]) hf (by rw [o1, h2]) (by rw [o2, h3])
      exact ⟨n, q, s', lg', e2, by simp at k1; omega, fun h => by have := k2 h; exact ⟨by omega, this.2⟩, k3⟩
/-- What is told of a play that may have ended. -/
def EndRet (W : World) (L : List Asn) (g m : Nat) (ws : List Int) (K : Nat) (e : Ending) (w : World) : Prop :=
  ∃ (n : Nat) (q : Bool), e = .returned (.tuple #[.int .i64 n, .bool q]) ∧
    ((q = false ∧ n = K ∧ ∃ vl vf J lg, Own W NoF (blk g (snO vl vf J 0 false) :: memA 95 m ws lg :: L) w) ∨
     (q = true ∧ ∃ y x lg, lg.length = n ∧ n ≤ K ∧ Own W NoF (finA g y x :: memA 95 m ws lg :: L) w))
theorem cnt_end {W : World} (g m b S r K : Nat) (hr : 1 ≤ r) (hr8 : r ≤ 8) (hK : K ≤ 1000) (hw : WS b S ws) (h : Own W NoF (cntA g b S (s0S r) :: memA 95 m ws [] :: L) w) :
    Calls Try.prog 15 #[.pointer (some ⟨m, 0, none⟩), .iface 39 (.pointer (some ⟨g, 0, none⟩)), .slice none 0 0, .int .i64 K] w (EndRet W L g m ws K) := by
  have H := Cnt_play g m b S _ (s0S r) ws [] [] K (by decide) (pksAt_nil _) (by omega) (GS.start S r hr hr8) hw (by decide) (fun _ _ h => h) h
  rw [Int.toNat_natCast] at H
  have hb := (cplay_inv (b := b) (S := S) (l := []) g (fun t ws h => h) K 0 (s0S r) ws [] hw (GS.start S r hr hr8)).2.2.2
  obtain ⟨n, q, s', lg', e, k1, k2, k3⟩ := cplay_end (b := b) (S := S) g K 0 (s0S r) ws [] rfl rfl rfl
  rw [e] at H hb
  refine H.mono ?_
  rintro e w' ⟨rfl, hO⟩
  simp only [cntM] at hO
  simp only [List.length_nil] at hb k1
  refine ⟨n, q, rfl, ?_⟩
  cases q with
  | false =>
    obtain ⟨a1, a2, a3, a4⟩ := k2 rfl
    refine Or.inl ⟨rfl, by omega, ?_⟩
    unfold cntA at hO
    rw [if_neg (by rw [a2]; decide)] at hO
    obtain ⟨vl, vf, bc, bt, hO⟩ := hO.cnt
    rw [a3, a4] at hO
    exact ⟨vl, vf, _, lg', hO.under fun _ _ h => h.drop.drop.drop.drop⟩
  | true =>
    refine Or.inr ⟨rfl, s'.n, s'.ex, lg', by omega, by omega, ?_⟩
    unfold cntA at hO
    rw [if_pos (k3 rfl)] at hO
    exact hO
theorem pk_end {W : World} (g m b K : Nat) (hb : b < ws.length) (hK : K ≤ 1000) (h : Own W NoF (peekA g b ⟨false, 0⟩ :: memA 95 m ws [] :: L) w) :
    Calls Try.prog 15 #[.pointer (some ⟨m, 0, none⟩), .iface 39 (.pointer (some ⟨g, 0, none⟩)), .slice none 0 0, .int .i64 K] w (EndRet W L g m ws K) := by
  have H := Pk_play g m b _ ⟨false, 0⟩ ws [] [] K (by decide) (pksAt_nil _) (by omega) hb (by decide) h
  rw [Int.toNat_natCast] at H
  refine H.mono ?_
  rintro e w' ⟨rfl, hO⟩
  simp only [pkM] at hO
  cases K with
  | zero =>
    have e0 : playF (pkM g b) [] 0 0 ⟨false, 0⟩ ws [] = (0, false, ⟨false, 0⟩, ws, []) := rfl
    simp only [pkM] at e0
    simp only [e0] at hO ⊢
    refine ⟨0, false, rfl, Or.inl ⟨rfl, rfl, ?_⟩⟩
    unfold peekA at hO
    rw [if_neg (by decide)] at hO
    obtain ⟨v, hO⟩ := hO.exE
    exact ⟨_, _, _, _, hO.part.under fun _ _ h => h.drop⟩
  | succ K =>
    have e0 : playF (pkM g b) [] (K + 1) 0 ⟨false, 0⟩ ws [] = (1, true, ⟨true, ws.getD b 0⟩, ws, [⟨1, (b : Int), ws.getD b 0, 0, false⟩]) := rfl
    simp only [pkM] at e0
    simp only [e0] at hO ⊢
    refine ⟨1, true, rfl, Or.inr ⟨rfl, ws.getD b 0, false, [⟨1, (b : Int), ws.getD b 0, 0, false⟩], rfl, by omega, ?_⟩⟩
    unfold peekA at hO
    rw [if_pos rfl] at hO
    exact hO
end
section
open Go.ChangeShapes Go.WideShapes Go.ChangeAt Go.RowKit Go.Shelf
set_option linter.unusedVariables false
set_option maxRecDepth 100000
variable {w0 w w' : World} {F0 : Nat → Prop} {L : List Asn} {T : TypeId} {m : Nat} {ws : List Int} {lg : List Acc}
theorem cnt_calm (g m b S r : Nat) (K : Int) (hr : 1 ≤ r) (hr8 : r ≤ 8) (hK : (4 + 2 * S : Nat) ≤ K) (hK2 : K ≤ 1000) (hw : WS b S ws) (hd : ws.getD (b + 1) 0 = ws.getD (b + 2) 0) (hlg : lg.length ≤ 900000) (h : Own w0 F0 (cntA g b S (s0S r) :: memA 95 m ws lg :: L) w) :
    Calls Try.prog 15 #[.pointer (some ⟨m, 0, none⟩), .iface 39 (.pointer (some ⟨g, 0, none⟩)), .slice none 0 0, .int .i64 K] w fun e w' =>
      e = .returned (.tuple #[.int .i64 ((4 + 2 * S : Nat) : Int), .bool true]) ∧ ∃ lg', lg'.length = lg.length + (4 + 2 * S) ∧ Own w0 F0 (finA g (wrap64 (ws.getD b 0 + strN b ws S)) true :: memA 95 m ws lg' :: L) w' := by
  have H := Cnt_play g m b S _ (s0S r) ws lg [] K (by decide) (pksAt_nil _) (by omega) (GS.start S r hr hr8) hw hlg (fun _ _ h => h) h
  obtain ⟨lg', hl, e⟩ := calm_yes (M := cntM g b S) (b := b) (S := S) (ws := ws) rfl hw.S1 hd r (K.toNat - (4 + 2 * S)) 0 lg
  rw [show K.toNat - (4 + 2 * S) + (4 + 2 * S) = K.toNat by omega] at e
  rw [e] at H
  refine H.mono ?_
  rintro e w' ⟨rfl, hO⟩
  simp only [cntM] at hO
  refine ⟨by rw [Nat.zero_add], lg', hl, ?_⟩
  unfold cntA at hO
  rw [if_pos rfl] at hO
  exact hO
theorem cnt_open (g m b S r : Nat) (K : Int) (hr : 1 ≤ r) (hr8 : r ≤ 8) (hK : (r * (4 + 2 * S) : Nat) ≤ K) (hK2 : K ≤ 1000) (hw : WS b S ws) (hd : ws.getD (b + 1) 0 ≠ ws.getD (b + 2) 0) (hlg : lg.length ≤ 900000) (h : Own w0 F0 (cntA g b S (s0S r) :: memA 95 m ws lg :: L) w) :
    Calls Try.prog 15 #[.pointer (some ⟨m, 0, none⟩), .iface 39 (.pointer (some ⟨g, 0, none⟩)), .slice none 0 0, .int .i64 K] w fun e w' =>
      e = .returned (.tuple #[.int .i64 ((r * (4 + 2 * S) : Nat) : Int), .bool true]) ∧ ∃ lg', lg'.length = lg.length + r * (4 + 2 * S) ∧ Own w0 F0 (finA g (ws.getD b 0) false :: memA 95 m ws lg' :: L) w' := by
  have H := Cnt_play g m b S _ (s0S r) ws lg [] K (by decide) (pksAt_nil _) (by omega) (GS.start S r hr hr8) hw hlg (fun _ _ h => h) h
  obtain ⟨lg', hl, e⟩ := calm_no (M := cntM g b S) (b := b) (S := S) (ws := ws) rfl hw.S1 hd r (K.toNat - r * (4 + 2 * S)) 0 lg hr
  rw [show K.toNat - r * (4 + 2 * S) + r * (4 + 2 * S) = K.toNat by omega] at e
  rw [e] at H
  refine H.mono ?_
  rintro e w' ⟨rfl, hO⟩
  simp only [cntM] at hO
  refine ⟨by rw [Nat.zero_add], lg', hl, ?_⟩
  unfold cntA at hO
  rw [if_pos rfl] at hO
  exact hO
theorem pk_play0 (g m b : Nat) (K : Int) (hK : 1 ≤ K) (hK2 : K ≤ 1000) (hb : b < ws.length) (hlg : lg.length ≤ 900000) (h : Own w0 F0 (peekA g b ⟨false, 0⟩ :: memA 95 m ws lg :: L) w) :
    Calls Try.prog 15 #[.pointer (some ⟨m, 0, none⟩), .iface 39 (.pointer (some ⟨g, 0, none⟩)), .slice none 0 0, .int .i64 K] w fun e w' =>
      e = .returned (.tuple #[.int .i64 1, .bool true]) ∧ ∃ lg', Own w0 F0 (finA g (ws.getD b 0) false :: memA 95 m ws lg' :: L) w' := by
  have H := Pk_play g m b _ ⟨false, 0⟩ ws lg [] K (by decide) (pksAt_nil _) (by omega) hb hlg h
  obtain ⟨k, hk⟩ : ∃ k, K.toNat = k + 1 := ⟨K.toNat - 1, by omega⟩
  have e0 : playF (pkM g b) [] (k + 1) 0 ⟨false, 0⟩ ws lg = (1, true, ⟨true, ws.getD b 0⟩, ws, lg ++ [⟨1, (b : Int), ws.getD b 0, 0, false⟩]) := rfl
  rw [hk, e0] at H
  refine H.mono ?_
  rintro e w' ⟨rfl, hO⟩
  simp only [pkM] at hO
  refine ⟨rfl, lg ++ [⟨1, (b : Int), ws.getD b 0, 0, false⟩], ?_⟩
  unfold peekA at hO
  rw [if_pos rfl] at hO
  exact hO
/-- As much as so many stripes may hold. -/
def gN (g : Int) : Nat → Int
  | 0 => 0
  | k + 1 => gN g k + g - 1
theorem gN_bd (g : Int) (h1 : 1 ≤ g) (h2 : g ≤ 40) : ∀ k, 0 ≤ gN g k ∧ gN g k ≤ 39 * k
  | 0 => by simp [gN]
  | k + 1 => by have := gN_bd g h1 h2 k; rw [gN]; omega
theorem strN_gate {p : AP} {ws : List Int} (hw : WOk p ws) : ∀ k : Nat, (k : Int) ≤ p.S → -gN p.g k ≤ strN p.b ws k ∧ strN p.b ws k ≤ gN p.g k
  | 0, _ => by simp [gN, strN]
  | k + 1, h => by
    have ih := strN_gate hw k (by omega)
    have hg := hw.gate k (by omega)
    rw [gN, strN]
    omega
end
end Go.Proofs.Ytikncpmkjcnhhaa
