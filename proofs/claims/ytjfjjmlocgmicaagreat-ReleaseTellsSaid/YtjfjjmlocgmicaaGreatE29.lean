/- Texts of elder layers, one behind the other: AskPk, AskFacts, ReleaseAny, ReleaseFacts. -/
import Derived.Test.YtjfjjmlocgmicaaGreatE24
import Derived.Test.YtjfjjmlocgmicaaGreatE28
section
namespace Go.Proofs.YtjfjjmlocgmicaaGreat
open Go.RowKit
set_option linter.unusedVariables false
def pkzA (c : Cf) (a r n : Int) : Pk :=
  if r = 0 then ⟨a, lim c (n % (c.ps.length : Int)) + 1, n⟩
  else if r = 1 then ⟨a, lim c (n % (c.ps.length : Int)) + 2 + n % c.st, n % (c.le + 1)⟩
  else ⟨a, lim c (n % (c.ps.length : Int)) + 2 + c.st + 4 + n % c.st, sg (pmk (n % 1000) (n % c.ga))⟩
def pokeA (c : Cf) (q : Pk) : Pk := pkzA c q.at_ ((if q.w < 0 then 0 else q.w) % 3) ((if q.x < 0 then 0 else q.x) % 4294967296)
def poA (x : Ak) : List Pk := x.l.map (pokeA x.c)
theorem poA_len (x : Ak) : (poA x).length = x.l.length := by simp [poA]
theorem poA_take (x : Ak) (k : Nat) (hk : k < x.l.length) : (poA x).take (k + 1) = (poA x).take k ++ [pokeA x.c (x.l.getD k default)] := by
  have h : k < (poA x).length := by rw [poA_len]; exact hk
  rw [List.take_add_one, List.getElem?_eq_getElem h]
  simp [poA, List.getD, hk]
theorem pokeA_of {c : Cf} {y0 y1 y2 r n : Int} (hr : (if y1 < 0 then 0 else y1) % 3 = r) (hn : (if y2 < 0 then 0 else y2) % 4294967296 = n) : pokeA c ⟨y0, y1, y2⟩ = pkzA c y0 r n := by
  unfold pokeA; simp only [hr, hn]
theorem pkzA_0 {c : Cf} {a n v : Int} (hv : n % (c.ps.length : Int) = v) : pkzA c a 0 n = ⟨a, lim c v + 1, n⟩ := by unfold pkzA; rw [if_pos rfl, hv]
theorem pkzA_1 {c : Cf} {a n v s z : Int} (hv : n % (c.ps.length : Int) = v) (hs : n % c.st = s) (hz : n % (c.le + 1) = z) : pkzA c a 1 n = ⟨a, lim c v + 2 + s, z⟩ := by unfold pkzA; rw [if_neg (by decide), if_pos rfl, hv, hs, hz]
theorem pkzA_2 {c : Cf} {a n v s e g : Int} (hv : n % (c.ps.length : Int) = v) (hs : n % c.st = s) (he : n % 1000 = e) (hg : n % c.ga = g) : pkzA c a 2 n = ⟨a, lim c v + 2 + c.st + 4 + s, sg (pmk e g)⟩ := by unfold pkzA; rw [if_neg (by decide), if_neg (by decide), hv, hs, he, hg]
end Go.Proofs.YtjfjjmlocgmicaaGreat
end
section
namespace Go.Proofs.YtjfjjmlocgmicaaGreat
open Go.RowKit
set_option linter.unusedVariables false
theorem fresh_hi (c : Cf) : ∀ k j, limN c k ≤ j → (freshW c k).getD j 0 = 0
  | 0, j, _ => by
    rw [freshW]
    simp only [List.getD_eq_getElem?_getD, List.getElem?_replicate]
    split <;> rfl
  | k + 1, j, h => by
    have hs := limN_succ c k
    rw [freshW, layW, getD_set, if_neg (by omega), getD_set, if_neg (by omega), getD_set, if_neg (by omega)]
    exact fresh_hi c k j (by omega)
theorem fresh_at (c : Cf) : ∀ k, k ≤ c.ps.length → ∀ u, u < k → ∀ i, i < 6 + 2 * c.st.toNat → (freshW c k).getD (limN c u + i) 0 = if i ≤ 1 then c.ls.getD u 0 else if i = 5 + c.st.toNat then 1 else 0
  | 0, _, u, hu, _, _ => by omega
  | k + 1, hk, u, hu, i, hi => by
    have hs := limN_succ c k
    have hl := freshW_len c k
    have hz := limN_lt c (show k < c.ps.length by omega)
    have hsz : limN c c.ps.length ≤ sizeN c := by unfold sizeN; omega
    rw [freshW, layW, getD_set, getD_set, getD_set]
    simp only [List.length_set]
    by_cases e : u = k
    · subst e
      by_cases h5 : i = 5 + c.st.toNat
      · rw [if_pos ⟨by omega, by omega⟩, if_neg (by omega), if_pos h5]
      · rw [if_neg (by omega)]
        by_cases h1 : i = 1
        · rw [if_pos ⟨by omega, by omega⟩, if_pos (by omega)]
        · rw [if_neg (by omega)]
          by_cases h0 : i = 0
          · rw [if_pos ⟨by omega, by omega⟩, if_pos (by omega)]
          · rw [if_neg (by omega), if_neg (by omega), if_neg h5]
            exact fresh_hi c u _ (by omega)
    · have hlt := limN_lt c (show u < k by omega)
      rw [if_neg (by omega), if_neg (by omega), if_neg (by omega)]
      exact fresh_at c k (by omega) u (by omega) i hi
variable {x : Ak}
theorem akB_at (x : Ak) : ∀ k, k ≤ x.c.ti.toNat → ∀ j, (akB x k).getD j 0 = if (∃ t, t < k ∧ j = tkN x.c t ∧ x.bs.getD t false = true) then 4294967297 else (freshW x.c x.c.ps.length).getD j 0
  | 0, _, j => by rw [akB, if_neg (by rintro ⟨t, h, _⟩; omega)]
  | k + 1, hk, j => by
    have ih := akB_at x k (by omega) j
    have hin : tkN x.c k < sizeN x.c := by unfold tkN sizeN; omega
    rw [akB]
    by_cases hb : x.bs.getD k false = true
    · rw [if_pos hb, getD_set]
      by_cases e : tkN x.c k = j
      · rw [if_pos ⟨e, by rw [akB_len]; omega⟩, if_pos ⟨k, by omega, e.symm, hb⟩]
      · rw [if_neg (fun h => e h.1), ih]
        by_cases hx : ∃ t, t < k ∧ j = tkN x.c t ∧ x.bs.getD t false = true
        · obtain ⟨t, h1, h2, h3⟩ := hx
          rw [if_pos ⟨t, h1, h2, h3⟩, if_pos ⟨t, by omega, h2, h3⟩]
        · rw [if_neg hx, if_neg]
          rintro ⟨t, h1, h2, h3⟩
          by_cases et : t = k
          · subst et; exact e h2.symm
          · exact hx ⟨t, by omega, h2, h3⟩
    · rw [if_neg hb, ih]
      by_cases hx : ∃ t, t < k ∧ j = tkN x.c t ∧ x.bs.getD t false = true
      · obtain ⟨t, h1, h2, h3⟩ := hx
        rw [if_pos ⟨t, h1, h2, h3⟩, if_pos ⟨t, by omega, h2, h3⟩]
      · rw [if_neg hx, if_neg]
        rintro ⟨t, h1, h2, h3⟩
        by_cases et : t = k
        · subst et; exact hb h3
        · exact hx ⟨t, by omega, h2, h3⟩
theorem akA_at (x : Ak) : ∀ k, k ≤ x.c.ps.length → ∀ j, (akA x k).getD j 0 = if (∃ u, u < k ∧ j = avN x.c u) then x.av.getD ((j - 1) / (6 + 2 * x.c.st.toNat)) 0 else (akB x (akRB x)).getD j 0
  | 0, _, j => by rw [akA, if_neg (by rintro ⟨t, h, _⟩; omega)]
  | k + 1, hk, j => by
    have ih := akA_at x k (by omega) j
    have hin : avN x.c k < sizeN x.c := by have := limN_lt x.c (show k < x.c.ps.length by omega); unfold avN sizeN; omega
    have hdiv : ∀ u, (avN x.c u - 1) / (6 + 2 * x.c.st.toNat) = u := fun u => by
      unfold avN limN
      rw [Nat.add_sub_cancel]
      exact Nat.mul_div_cancel _ (by omega)
    rw [akA, getD_set]
    by_cases e : avN x.c k = j
    · rw [if_pos ⟨e, by rw [akA_len]; omega⟩, if_pos ⟨k, by omega, e.symm⟩, ← e, hdiv]
    · rw [if_neg (fun h => e h.1), ih]
      by_cases hx : ∃ u, u < k ∧ j = avN x.c u
      · obtain ⟨t, h1, h2⟩ := hx
        rw [if_pos ⟨t, h1, h2⟩, if_pos ⟨t, by omega, h2⟩]
      · rw [if_neg hx, if_neg]
        rintro ⟨t, h1, h2⟩
        by_cases et : t = k
        · subst et; exact e h2.symm
        · exact hx ⟨t, by omega, h2⟩
def akAv (x : Ak) (u : Nat) : Int := if u < x.av.length then x.av.getD u 0 else x.c.ls.getD u 0
theorem akW_node (x : Ak) (u : Nat) (hu : u < x.c.ps.length) (i : Nat) (hi : i < 6 + 2 * x.c.st.toNat) : (akW x).getD (limN x.c u + i) 0 = if i = 0 then x.c.ls.getD u 0 else if i = 1 then akAv x u else if i = 5 + x.c.st.toNat then 1 else 0 := by
  have hlt := limN_lt x.c hu
  have hRA : akRA x ≤ x.c.ps.length ∧ akRA x ≤ x.av.length ∧ (akRA x = x.c.ps.length ∨ akRA x = x.av.length) := by unfold akRA; omega
  have hRB : akRB x ≤ x.c.ti.toNat := by unfold akRB; omega
  have hf := fresh_at x.c x.c.ps.length (Nat.le_refl _) u hu i hi
  have hB : (akB x (akRB x)).getD (limN x.c u + i) 0 = (freshW x.c x.c.ps.length).getD (limN x.c u + i) 0 := by
    rw [akB_at x _ hRB, if_neg]
    rintro ⟨t, _, h, _⟩
    unfold tkN at h; omega
  unfold akW
  rw [akA_at x _ hRA.1, hB, hf]
  have hdiv : ∀ u, (avN x.c u - 1) / (6 + 2 * x.c.st.toNat) = u := fun u => by
    unfold avN limN
    rw [Nat.add_sub_cancel]
    exact Nat.mul_div_cancel _ (by omega)
  by_cases h1 : i = 1
  · subst h1
    have e : limN x.c u + 1 = avN x.c u := rfl
    rw [e]
    have hex : (∃ u', u' < akRA x ∧ avN x.c u = avN x.c u') ↔ u < x.av.length := by
      constructor
      · rintro ⟨t, h2, h3⟩
        have h4 := congrArg (fun q => (q - 1) / (6 + 2 * x.c.st.toNat)) h3
        simp only [hdiv] at h4
        omega
      · intro hl; exact ⟨u, by omega, rfl⟩
    by_cases hl : u < x.av.length
    · rw [if_pos (hex.2 hl), hdiv]; simp [akAv, hl]
    · rw [if_neg (fun h => hl (hex.1 h))]; simp [akAv, hl]
  · rw [if_neg]
    · by_cases h0 : i = 0
      · rw [if_pos (by omega), if_pos h0]
      · rw [if_neg (by omega), if_neg h0, if_neg h1]
    · rintro ⟨t, h2, h3⟩
      by_cases e : u = t
      · subst e; unfold avN at h3; omega
      · have hst := limN_succ x.c t
        have hsu := limN_succ x.c u
        rcases Nat.lt_or_gt_of_ne e with h | h
        · have := limN_mono (c := x.c) (show u + 1 ≤ t by omega); unfold avN at h3; omega
        · have := limN_mono (c := x.c) (show t + 1 ≤ u by omega); unfold avN at h3; omega
theorem akW_hi (x : Ak) (j : Nat) (hj : limN x.c x.c.ps.length ≤ j) : (akW x).getD j 0 = if (∃ t, t < x.c.ti.toNat ∧ j = tkN x.c t ∧ x.bs.getD t false = true) then 4294967297 else 0 := by
  have hRA : akRA x ≤ x.c.ps.length := by unfold akRA; omega
  have hRB : akRB x ≤ x.c.ti.toNat := by unfold akRB; omega
  unfold akW
  rw [akA_at x _ hRA, if_neg, akB_at x _ hRB, fresh_hi _ _ _ hj]
  · by_cases hx : ∃ t, t < akRB x ∧ j = tkN x.c t ∧ x.bs.getD t false = true
    · obtain ⟨t, h1, h2, h3⟩ := hx
      rw [if_pos ⟨t, h1, h2, h3⟩, if_pos ⟨t, by omega, h2, h3⟩]
    · rw [if_neg hx, if_neg]
      rintro ⟨t, h1, h2, h3⟩
      refine hx ⟨t, ?_, h2, h3⟩
      have : t < x.bs.length := by
        apply Nat.lt_of_not_le
        intro hle
        rw [show x.bs.getD t false = false from by simp [List.getD, List.getElem?_eq_none hle]] at h3
        exact absurd h3 (by decide)
      unfold akRB; omega
  · rintro ⟨t, h2, h3⟩
    have := limN_lt x.c (show t < x.c.ps.length by omega)
    unfold avN at h3; omega
theorem akW_tk (x : Ak) (t : Nat) (ht : t < x.c.ti.toNat) : (akW x).getD (tkN x.c t) 0 = if x.bs.getD t false = true then 4294967297 else 0 := by
  rw [akW_hi x _ (by unfold tkN; omega)]
  by_cases hb : x.bs.getD t false = true
  · rw [if_pos ⟨t, ht, rfl, hb⟩, if_pos hb]
  · rw [if_neg, if_neg hb]
    rintro ⟨t', _, h2, h3⟩
    have : t' = t := by unfold tkN at h2; omega
    subst this; exact hb h3
theorem akW_wf (x : Ak) (hr : x.c.Rt) (hw : x.Wf) (k : Nat) : I64 ((akW x).getD k 0) := by
  by_cases hk : limN x.c x.c.ps.length ≤ k
  · rw [akW_hi x k hk]; split <;> (unfold I64; omega)
  · have hs : 0 < 6 + 2 * x.c.st.toNat := by omega
    have hd := Nat.div_add_mod k (6 + 2 * x.c.st.toNat)
    have hm := Nat.mod_lt k hs
    have hu : k / (6 + 2 * x.c.st.toNat) < x.c.ps.length := by
      rw [Nat.div_lt_iff_lt_mul hs]
      unfold limN at hk; omega
    have e : k = limN x.c (k / (6 + 2 * x.c.st.toNat)) + k % (6 + 2 * x.c.st.toNat) := by
      unfold limN; rw [Nat.mul_comm]; exact hd.symm
    have h := akW_node x _ hu _ hm
    rw [← e] at h
    rw [h]
    have hlm := hr.lm _ (by rw [hr.ll]; exact hu)
    unfold Bd at hlm
    split
    · unfold I64; omega
    · split
      · unfold akAv
        split
        · rename_i h1; have := hw.av _ h1; unfold I64; omega
        · unfold I64; omega
      · split <;> (unfold I64; omega)
theorem akW_dw (x : Ak) (hr : x.c.Rt) (hw : x.Wf) : DW x.c 1099511627776 (akW x) := by
  have hst := st_nat hr
  have hga := hr.ga
  have hle := hr.le
  unfold Bd at hga hle
  refine ⟨akA_len x _, akW_wf x hr hw, fun u hu => ⟨?_, fun i hi => ?_, ?_, fun k hk => ?_⟩⟩
  · have h := akW_node x u hu 1 (by omega)
    rw [if_neg (by decide), if_pos rfl] at h
    have hlm := hr.lm u (by rw [hr.ll]; exact hu)
    unfold Bd at hlm
    show 0 ≤ (akW x).getD (limN x.c u + 1) 0 ∧ (akW x).getD (limN x.c u + 1) 0 ≤ 1099511627776
    rw [h]
    unfold akAv
    split
    · rename_i h1; have := hw.av _ h1; omega
    · exact hlm
  · have h := akW_node x u hu (2 + i) (by omega)
    rw [if_neg (by omega), if_neg (by omega), if_neg (by omega)] at h
    unfold leN
    rw [Nat.add_assoc, h]; omega
  · have h := akW_node x u hu (2 + x.c.st.toNat + 3) (by omega)
    rw [if_neg (by omega), if_neg (by omega), if_pos (by omega)] at h
    unfold ctN
    rw [show limN x.c u + 2 + x.c.st.toNat + 3 = limN x.c u + (2 + x.c.st.toNat + 3) by omega, h]
    unfold Pow8; omega
  · have h := akW_node x u hu (2 + x.c.st.toNat + 4 + k) (by omega)
    rw [if_neg (by omega), if_neg (by omega), if_neg (by omega)] at h
    unfold ctN
    rw [show limN x.c u + 2 + x.c.st.toNat + 4 + k = limN x.c u + (2 + x.c.st.toNat + 4 + k) by omega, h]
    have : pval 0 = 0 := by unfold pval wrap32; omega
    omega
theorem nodeOk_zero (x : Ak) (hr : x.c.Rt) (u : Nat) (hu : u < x.c.ps.length) : sumZ (ctP x.c u 0) (akW x) = 0 := by
  have hst := st_nat hr
  have hz : ∀ i, 2 + x.c.st.toNat ≤ i → i < 6 + 2 * x.c.st.toNat → i ≠ 5 + x.c.st.toNat → (akW x).getD (limN x.c u + i) 0 = 0 := fun i h1 h2 h3 => by
    have h := akW_node x u hu i h2
    rw [if_neg (by omega), if_neg (by omega), if_neg h3] at h; exact h
  have hstr : ∀ n, n ≤ x.c.st.toNat → strN (ctN x.c u) (akW x) n = 0 := fun n => by
    induction n with
    | zero => intro _; rfl
    | succ n ih =>
      intro hn
      rw [strN, ih (by omega)]
      have := hz (2 + x.c.st.toNat + 4 + n) (by omega) (by omega) (by omega)
      unfold ctN
      rw [show limN x.c u + 2 + x.c.st.toNat + 4 + n = limN x.c u + (2 + x.c.st.toNat + 4 + n) by omega, this]
      unfold pval wrap32; omega
  have h0 := hz (2 + x.c.st.toNat) (by omega) (by omega) (by omega)
  have h1 := hstr x.c.st.toNat (Nat.le_refl _)
  show (akW x).getD (ctN x.c u) 0 + strN (ctN x.c u) (akW x) x.c.st.toNat = 0
  rw [h1]
  unfold ctN
  rw [show limN x.c u + 2 + x.c.st.toNat = limN x.c u + (2 + x.c.st.toNat) by omega, h0]; rfl
theorem DW.pokeW {c : Cf} (hr : c.Rt) {B : Int} {ws : List Int} (hB : 4294967296 ≤ B) (h : DW c B ws) (q : Pk) : DW c B (pokeW ws (pokeA c q)) := by
  have hst := st_nat hr
  have hn0 := hr.n0
  have hga := hr.ga
  have hle := hr.le
  unfold Bd at hga hle
  unfold pokeA
  generalize hn : (if q.x < 0 then 0 else q.x) % 4294967296 = n
  generalize (if q.w < 0 then 0 else q.w) % 3 = r
  have n0 : 0 ≤ n ∧ n < 4294967296 := by omega
  have v0 := Int.emod_nonneg n (show (c.ps.length : Int) ≠ 0 by omega)
  have v1 := Int.emod_lt_of_pos n (show 0 < (c.ps.length : Int) by omega)
  have s0 := Int.emod_nonneg n (show c.st ≠ 0 by omega)
  have s1 := Int.emod_lt_of_pos n (show 0 < c.st by omega)
  obtain ⟨v, hv⟩ : ∃ v : Nat, (v : Int) = n % (c.ps.length : Int) := ⟨(n % (c.ps.length : Int)).toNat, by omega⟩
  obtain ⟨s, hs⟩ : ∃ s : Nat, (s : Int) = n % c.st := ⟨(n % c.st).toNat, by omega⟩
  have hvl : v < c.ps.length := by omega
  have hsl : s < c.st.toNat := by omega
  have hlim := limN_eq hr.sm v
  have hsv := limN_succ c v
  have hnode := h.node v hvl
  have hnI : I64 n := by unfold I64; omega
  unfold pkzA
  rw [← hv, ← hs, hlim]
  by_cases r0 : r = 0
  · rw [if_pos r0]
    unfold Go.Proofs.YtjfjjmlocgmicaaGreat.pokeW
    split
    · simp only
      rw [show ((limN c v : Int) + 1).toNat = avN c v by unfold avN; omega]
      refine h.change (Int.le_refl _) v (List.length_set ..) (set_wf h.wf _ _ hnI) (fun j hj => by rw [getD_set, if_neg (by unfold avN; omega)]) ⟨?_, fun j hj => ?_, ?_, fun j hj => ?_⟩
      · rw [getD_set]; split
        · omega
        · exact hnode.av
      · rw [getD_set, if_neg (by unfold avN leN; omega)]; exact hnode.le j hj
      · rw [getD_set, if_neg (by unfold avN ctN; omega)]; exact hnode.live
      · rw [getD_set, if_neg (by unfold avN ctN; omega)]; exact hnode.gate j hj
    · exact h
  · rw [if_neg r0]
    by_cases r1 : r = 1
    · rw [if_pos r1]
      unfold Go.Proofs.YtjfjjmlocgmicaaGreat.pokeW
      split
      · simp only
        rw [show ((limN c v : Int) + 2 + s).toNat = leN c v s by unfold leN; omega]
        have z0 := Int.emod_nonneg n (show c.le + 1 ≠ 0 by omega)
        have z1 := Int.emod_lt_of_pos n (show 0 < c.le + 1 by omega)
        refine h.change (Int.le_refl _) v (List.length_set ..) (set_wf h.wf _ _ (by unfold I64; omega)) (fun j hj => by rw [getD_set, if_neg (by unfold leN; omega)]) ⟨?_, fun j hj => ?_, ?_, fun j hj => ?_⟩
        · rw [getD_set, if_neg (by unfold avN leN; omega)]; exact hnode.av
        · rw [getD_set]; split
          · omega
          · exact hnode.le j hj
        · rw [getD_set, if_neg (by unfold leN ctN; omega)]; exact hnode.live
        · rw [getD_set, if_neg (by unfold leN ctN; omega)]; exact hnode.gate j hj
      · exact h
    · rw [if_neg r1]
      unfold Go.Proofs.YtjfjjmlocgmicaaGreat.pokeW
      split
      · simp only
        rw [show ((limN c v : Int) + 2 + c.st + 4 + s).toNat = ctN c v + 4 + s by unfold ctN; omega]
        have e0 : 0 ≤ n % 1000 ∧ n % 1000 < 1000 := by omega
        have g0 := Int.emod_nonneg n (show c.ga ≠ 0 by omega)
        have g1 := Int.emod_lt_of_pos n (show 0 < c.ga by omega)
        have hpv := pval_sg (n % 1000) (n % c.ga) e0.1 (by omega) (by omega) (by omega)
        refine h.change (Int.le_refl _) v (List.length_set ..) (set_wf h.wf _ _ (sg_I _)) (fun j hj => by rw [getD_set, if_neg (by unfold ctN; omega)]) ⟨?_, fun j hj => ?_, ?_, fun j hj => ?_⟩
        · rw [getD_set, if_neg (by unfold avN ctN; omega)]; exact hnode.av
        · rw [getD_set, if_neg (by unfold ctN leN; omega)]; exact hnode.le j hj
        · rw [getD_set, if_neg (by omega)]; exact hnode.live
        · rw [getD_set]; split
          · rw [hpv]; omega
          · exact hnode.gate j hj
      · exact h
theorem ask_pokes {x : Ak} (hr : x.c.Rt) (t : Nat) (B : Int) (ws : List Int) (hB : 1099511627776 ≤ B) (h : DW x.c B ws) : DW x.c B (pokesAt t (poA x) ws) := by
  unfold pokesAt poA
  rw [List.filter_map]
  generalize x.l.filter _ = l
  induction l generalizing ws with
  | nil => exact h
  | cons q l ih => rw [List.map_cons, List.foldl_cons]; exact ih _ (h.pokeW hr (by omega) q)
end Go.Proofs.YtjfjjmlocgmicaaGreat
end
section
namespace Go.Proofs.YtjfjjmlocgmicaaGreat
open Go.RowKit
set_option linter.unusedVariables false
variable {p : RP} {s : RS} {ws ws0 : List Int} {lg : List Acc} {B0 : Int} {M0 t : Nat} {l : List Pk}
theorem muR_pokes (t : Nat) (l : List Pk) : muR p s (pokesAt t l ws) + 7 * cntP l t ≤ muR p s ws + 7 * cntP l (t + 1) := by
  by_cases h : ∃ q ∈ l, q.at_ = (t : Int)
  · have h1 := cntP_hit t l h
    have h2 := muR_poke (p := p) (s := s) (ws := ws) (pokesAt t l ws)
    omega
  · rw [pokesAt_none (fun q hq e => h ⟨q, hq, e⟩)]
    have := cntP_mono t l
    omega
def TkStill (c : Cf) (l : List Pk) : Prop := ∀ (t : Nat) ws x, limN c c.ps.length ≤ x → (pokesAt t l ws).getD x 0 = ws.getD x 0
theorem RI.poke (hpk : ∀ (t : Nat) B ws, B0 ≤ B → DW p.c B ws → DW p.c B (pokesAt t l ws)) (hpt : TkStill p.c l) (h : RI p B0 ws0 (100 + 7 * cntP l t) t s ws lg) : RI p B0 ws0 (100 + 7 * cntP l (t + 1)) t s (pokesAt t l ws) lg := by
  have h1 := muR_pokes (p := p) (s := s) (ws := ws) t l
  have h2 := h.mu
  have htk : limN p.c p.c.ps.length ≤ p.tk := by unfold RP.tk tkN; omega
  exact ⟨hpk t _ _ (bt_ge _ _) h.w, h.ok, by omega, h.er, h.len, fun x hx hne => by rw [hpt t ws x hx]; exact h.oth x hx hne, fun e => by rw [hpt t ws _ htk]; exact h.low e, h.liv, fun e1 e2 => by rw [hpt t ws _ htk]; exact h.tkw e1 e2⟩
theorem release_any {M : Mach RS} (hM : ∀ s ws lg, M.step s ws lg = stepR p s ws lg) (hp : p.Ok) (hB0 : B0 ≤ 10000000000000) (hpk : ∀ (t : Nat) B ws, B0 ≤ B → DW p.c B ws → DW p.c B (pokesAt t l ws)) (hpt : TkStill p.c l) (hw : DW p.c B0 ws) (hbd : Liv p ws → BdOk p.c (ws.getD (p.tk + 1) 0)) (K : Nat) (hK : K ≤ 1000000) :
    ∃ k q s' ws' lg', playF M l K 0 s0R ws [] = (k, q, s', ws', lg') ∧ k ≤ K ∧ (q = false → s'.ph ≠ 6 ∧ RI p B0 ws (100 + 7 * cntP l k) k s' ws' lg' ∧ k = K) ∧ (q = true → s'.ph = 6 ∧ RI p B0 ws (100 + 7 * l.length) k s' ws' lg') := by
  have h0 := RI.start hw
  have h0' : RI p B0 ws (100 + 7 * cntP l 0) 0 s0R ws [] := ⟨h0.w, h0.ok, by have := h0.mu; omega, h0.er, h0.len, h0.oth, h0.low, h0.liv, h0.tkw⟩
  obtain ⟨k, q, s', ws', lg', e, h1, h2, h3⟩ := playF_inv2 (M := M) (l := l) K (fun t s w lg => s.ph ≠ 6 ∧ RI p B0 ws (100 + 7 * cntP l t) t s w lg) (fun t s w lg => s.ph ≠ 6 ∧ RI p B0 ws (100 + 7 * cntP l (t + 1)) t s w lg) (fun t s w lg => s.ph = 6 ∧ RI p B0 ws (100 + 7 * cntP l t) t s w lg)
    (fun t s w lg h => ⟨h.1, h.2.poke hpk hpt⟩)
    (fun t s w lg ht ⟨h6, h⟩ => by
      rw [hM]
      have g1 := h.step hp hB0 (show t ≤ 1000000 by omega) hbd h6
      have g3 := stepR_flag (p := p) (ws := w) (lg := lg) h.ok
      exact ⟨fun hf => ⟨by rw [hf] at g3; exact fun e => by rw [decide_eq_true e] at g3; exact absurd g3 (by decide), g1⟩, fun hf => ⟨by rw [hf] at g3; exact of_decide_eq_true g3.symm, g1⟩⟩) K 0 s0R ws [] (by omega) ⟨by simp [s0R], h0'⟩
  refine ⟨k, q, s', ws', lg', e, by omega, fun hq => ⟨(h2 hq).1.1, (h2 hq).1.2, by have := (h2 hq).2; omega⟩, fun hq => ?_⟩
  obtain ⟨h4, h5⟩ := h3 hq
  have hc := cntP_le l k
  exact ⟨h4, h5.w, h5.ok, by have := h5.mu; omega, h5.er, h5.len, h5.oth, h5.low, h5.liv, h5.tkw⟩
theorem pokeW_still {c : Cf} (hr : c.Rt) (q : Pk) (ws : List Int) (x : Nat) (hx : limN c c.ps.length ≤ x) : (pokeW ws (pokeA c q)).getD x 0 = ws.getD x 0 := by
  have hst := st_nat hr
  have hn0 := hr.n0
  unfold pokeA
  generalize hn : (if q.x < 0 then 0 else q.x) % 4294967296 = n
  generalize (if q.w < 0 then 0 else q.w) % 3 = r
  have n0 : 0 ≤ n ∧ n < 4294967296 := by omega
  have v0 := Int.emod_nonneg n (show (c.ps.length : Int) ≠ 0 by omega)
  have v1 := Int.emod_lt_of_pos n (show 0 < (c.ps.length : Int) by omega)
  have s0 := Int.emod_nonneg n (show c.st ≠ 0 by omega)
  have s1 := Int.emod_lt_of_pos n (show 0 < c.st by omega)
  obtain ⟨v, hv⟩ : ∃ v : Nat, (v : Int) = n % (c.ps.length : Int) := ⟨(n % (c.ps.length : Int)).toNat, by omega⟩
  obtain ⟨s, hs⟩ : ∃ s : Nat, (s : Int) = n % c.st := ⟨(n % c.st).toNat, by omega⟩
  have hvl : v < c.ps.length := by omega
  have hlim := limN_eq hr.sm v
  have hlt := limN_lt c hvl
  unfold pkzA
  rw [← hv, ← hs, hlim]
  have key : ∀ i y, 0 ≤ i → i < (limN c v : Int) + (6 + 2 * c.st) → (pokeW ws ⟨q.at_, i, y⟩).getD x 0 = ws.getD x 0 := fun i y h0 h1 => by
    unfold Go.Proofs.YtjfjjmlocgmicaaGreat.pokeW
    split
    · simp only; rw [getD_set, if_neg (by omega)]
    · rfl
  by_cases r0 : r = 0
  · rw [if_pos r0]; exact key _ _ (by omega) (by omega)
  · rw [if_neg r0]
    by_cases r1 : r = 1
    · rw [if_pos r1]; exact key _ _ (by omega) (by omega)
    · rw [if_neg r1]; exact key _ _ (by omega) (by omega)
theorem ask_still {x : Ak} (hr : x.c.Rt) : TkStill x.c (poA x) := by
  intro t ws i hi
  unfold pokesAt poA
  rw [List.filter_map]
  generalize x.l.filter _ = l
  induction l generalizing ws with
  | nil => rfl
  | cons q l ih => rw [List.map_cons, List.foldl_cons, ih, pokeW_still hr q ws i hi]
theorem nil_still (c : Cf) : TkStill c [] := fun t ws x _ => by rw [pokesAt_nil]
end Go.Proofs.YtjfjjmlocgmicaaGreat
end
section
namespace Go.Proofs.YtjfjjmlocgmicaaGreat
open Go.ChangeShapes Go.WideShapes Go.ChangeAt Go.RowKit Go.Shelf
set_option linter.unusedVariables false
set_option linter.unusedSimpArgs false
set_option maxRecDepth 100000
variable {w w' W : World} {L : List Asn} {T : TypeId} {m : Nat} {ws ws0 : List Int} {lg l0 : List Acc} {l : List Pk} {vp vl : Value}
theorem release_meth (g : Nat) : ∀ d w, (method (d + 2) 44 (.pointer (some ⟨g, 0, none⟩)) "Step").run Tryz.prog w = .ok (34, .pointer (some ⟨g, 0, none⟩)) w := fun d w => by kernel_rfl
theorem release_enters : ∀ args w, (callFunc 34 args).run Tryz.prog w = .ok (.enter 34 args) w := enters_of Tryz.func34 (by kernel_rfl) rfl
theorem stepR_open {p : RP} {s : RS} (hf : (stepR p s ws lg).2.2.2 = false) : s.ph ≠ 6 := fun h => by rw [stepR_end h] at hf; exact absurd hf (by simp)
theorem stepA_pre2 (q : AP) (k : AS) : stepA q k ws (l0 ++ lg) = ((stepA q k ws lg).1, (stepA q k ws lg).2.1, l0 ++ (stepA q k ws lg).2.2.1, (stepA q k ws lg).2.2.2) := by
  unfold stepA
  split <;> (try split) <;> simp [List.append_assoc]
theorem stepR_pre (p : RP) (s : RS) (ws : List Int) (l0 lg : List Acc) : stepR p s ws (l0 ++ lg) = ((stepR p s ws lg).1, (stepR p s ws lg).2.1, l0 ++ (stepR p s ws lg).2.2.1, (stepR p s ws lg).2.2.2) := by
  unfold stepR
  split
  · simp [List.append_assoc]
  · split <;> simp [List.append_assoc]
  · simp [List.append_assoc]
  · simp [List.append_assoc]
  · rw [stepA_pre2]
  · simp [List.append_assoc]
  · rfl
theorem playF_lgR {p : RP} {M : Mach RS} (hM : ∀ s ws lg, M.step s ws lg = stepR p s ws lg) (l : List Pk) (lg0 : List Acc) : ∀ (f t : Nat) (s : RS) (ws : List Int) (lg : List Acc),
    playF M l f t s ws (lg0 ++ lg) = ((playF M l f t s ws lg).1, (playF M l f t s ws lg).2.1, (playF M l f t s ws lg).2.2.1, (playF M l f t s ws lg).2.2.2.1, lg0 ++ (playF M l f t s ws lg).2.2.2.2)
  | 0, t, s, ws, lg => rfl
  | f + 1, t, s, ws, lg => by
    rw [playF, playF, hM, hM, stepR_pre]
    by_cases h : (stepR p s (pokesAt t l ws) lg).2.2.2 = true
    · simp only [h, if_true]
    · simp only [h, if_false]
      exact playF_lgR hM l lg0 f (t + 1) _ _ _
theorem RI.poke2 {p : RP} {B0 : Int} {M0 t : Nat} {s : RS} (hpk : ∀ (t : Nat) B ws, B0 ≤ B → DW p.c B ws → DW p.c B (pokesAt t l ws)) (hpt : TkStill p.c l) (h : RI p B0 ws0 M0 t s ws lg) : RI p B0 ws0 (M0 + 7) t s (pokesAt t l ws) lg := by
  have h1 := muR_poke (p := p) (s := s) (ws := ws) (pokesAt t l ws)
  have h2 := h.mu
  have htk : limN p.c p.c.ps.length ≤ p.tk := by unfold RP.tk tkN; omega
  exact ⟨hpk t _ _ (bt_ge _ _) h.w, h.ok, by omega, h.er, h.len, fun x hx hne => by rw [hpt t ws x hx]; exact h.oth x hx hne, fun e => by rw [hpt t ws _ htk]; exact h.low e, h.liv, fun e1 e2 => by rw [hpt t ws _ htk]; exact h.tkw e1 e2⟩
theorem Rel_play (g m : Nat) (p : RP) (B0 : Int) (hB0 : B0 ≤ 10000000000000) (v : Value) (ws : List Int) (lg0 : List Acc) (l : List Pk) (most : Int) (hl : l.length ≤ 1000000) (hv : PksAt w v l) (hm : most ≤ 5000)
    (hvp : IntsAt W .i64 vp p.c.ps) (hvl : IntsAt W .i64 vl p.c.ls)
    (hp : p.Ok) (hpk : ∀ (t : Nat) B ws, B0 ≤ B → DW p.c B ws → DW p.c B (pokesAt t l ws)) (hpt : TkStill p.c l) (hw : DW p.c B0 ws) (hbd : Liv p ws → BdOk p.c (ws.getD (p.tk + 1) 0)) (hlg : lg0.length ≤ 900000)
    (h : Own W NoF (relA vp vl g p s0R :: memA 107 m ws lg0 :: L) w) :
    Calls Tryz.prog 16 #[.pointer (some ⟨m, 0, none⟩), .iface 44 (.pointer (some ⟨g, 0, none⟩)), v, .int .i64 most] w (PlayRet W NoF L (relM vp vl g p) 107 m (playF (relM vp vl g p) l most.toNat 0 s0R ws lg0)) := by
  refine Play_t (relM vp vl g p) (fun t s w1 lg => ∃ lg1 M0, lg = lg0 ++ lg1 ∧ RI p B0 ws M0 t s w1 lg1) 44 34 _ _ m v s0R ws lg0 l most hl hv (by omega) (release_meth g) release_enters (rel_steps g m _ p hvp hvl)
    ?_ ?_ ?_ ⟨[], 100, (List.append_nil _).symm, RI.start hw⟩ h
  · rintro t s w1 lg ht ⟨lg1, M0, rfl, hI⟩
    exact ⟨hp, ⟨bt B0 t, bt_le hB0 (by omega), hI.w, hI.ok⟩, hI.body hbd, by have := hI.len; rw [List.length_append]; omega⟩
  · rintro t s w1 lg ht ⟨lg1, M0, rfl, hI⟩
    exact ⟨lg1, _, rfl, hI.poke2 hpk hpt⟩
  · rintro t s w1 lg ht ⟨lg1, M0, rfl, hI⟩ hf
    simp only [relM] at hf ⊢
    rw [stepR_pre] at hf ⊢
    exact ⟨_, _, rfl, hI.step hp hB0 (by omega) hbd (stepR_open hf)⟩
end Go.Proofs.YtjfjjmlocgmicaaGreat
end
