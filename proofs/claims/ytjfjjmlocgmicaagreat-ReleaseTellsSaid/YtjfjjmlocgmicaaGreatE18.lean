/- Texts of elder layers, one behind the other: ClaimLaw, Slot, Range, ClaimMach, Pool, PoolMach. -/
import Derived.Test.YtjfjjmlocgmicaaGreatE17
import Derived.Deep.RegionLaw
import Derived.Deep.RegionHeld3
import Derived.BigQuiet
import Derived.Deep.QuietTactic
import Derived.OwnWalk
import Derived.Laws.Shifts
import Derived.Lib.QuietBelow
import Derived.RangeFuncRecord
import Derived.RangeFuncSeq
import Derived.CallsIn
import Derived.OwnWalkIn
import Derived.TacticsInMore
import Derived.LoopNIn
import Derived.LoopIn
import Derived.RangeFuncCalls
import Derived.Stop.RegionWithIn
section
namespace Go.Proofs.YtjfjjmlocgmicaaGreat
open Go.ChangeShapes Go.WideShapes Go.ChangeAt Go.RowKit Go.Shelf
set_option linter.unusedVariables false
set_option linter.unusedSimpArgs false
set_option maxRecDepth 100000
variable {w0 w w' W : World} {F0 : Nat → Prop} {L : List Asn} {ws : List Int} {lg : List Acc}
section
variable {pp pl pe pk : Option Addr} {cp cl ce ck : Nat}
end
theorem tk_eq {c : Cf} (hr : c.Rt) : lim c c.ps.length = ((limN c c.ps.length : Nat) : Int) ∧ sizeN c = limN c c.ps.length + 2 * c.ti.toNat ∧ sizeN c ≤ 400 ∧ c.ti = ((c.ti.toNat : Nat) : Int) ∧ 1 ≤ c.ti.toNat ∧ c.ti.toNat ≤ 16 := by
  have ht := hr.ti
  unfold Bd at ht
  obtain ⟨z1, z2⟩ := sizeN_eq hr
  have hl := limN_eq hr.sm c.ps.length
  refine ⟨hl, rfl, by omega, by omega, by omega, by omega⟩

end Go.Proofs.YtjfjjmlocgmicaaGreat
end
section
namespace Go.Proofs.YtjfjjmlocgmicaaGreat
open Go.ChangeShapes Go.WideShapes Go.ChangeAt Go.RowKit
set_option linter.unusedVariables false
theorem and_low (k : Nat) (n m : Int) (hm : (BitVec.ofInt 64 m).toNat = 2 ^ k - 1) (hk : 2 ^ k ≤ 9223372036854775808) : bits .and .i64 n m = ((n % 18446744073709551616).toNat % 2 ^ k : Nat) := by
  have key : (BitVec.ofInt 64 n &&& BitVec.ofInt 64 m).toNat = (n % ((2 ^ 64 : Nat) : Int)).toNat % 2 ^ k := by
    rw [BitVec.toNat_and, BitVec.toNat_ofInt, hm, Nat.and_two_pow_sub_one_eq_mod]
  show IntKind.i64.wrap ((BitVec.ofInt 64 n &&& BitVec.ofInt 64 m).toNat : Nat) = _
  rw [key, IntKind.wrap_i64]
  have h1 : (n % 18446744073709551616).toNat % 2 ^ k < 2 ^ k := Nat.mod_lt _ (Nat.two_pow_pos k)
  have e : ((2 ^ 64 : Nat) : Int) = 18446744073709551616 := by decide
  rw [e]
  omega
theorem and15 (n : Int) : bits .and .i64 n 15 = n % 16 := by
  rw [and_low 4 n 15 (by decide) (by decide)]; omega
theorem and21 (n : Int) : bits .and .i64 n 2097151 = n % 2097152 := by
  rw [and_low 21 n 2097151 (by decide) (by decide)]; omega
theorem isState_any (s : Int) (w : World) : Calls Tryz.prog 85 #[.int .i64 s] w fun e w' => e = .returned (.bool (tnB s)) ∧ w = w' := by
  by_cases h : 0 ≤ s ∧ s ≤ 3
  · rw [show tnB s = true from decide_eq_true h]
    obtain ⟨h0, h1⟩ := h
    go_enter Tryz.func85, Tryz.ntmps85
    go_wp2_with fail
    go_ret
    exact ⟨rfl, rfl⟩
  · rw [show tnB s = false from decide_eq_false h]
    have hc : s < 0 ∨ (0 ≤ s ∧ 3 < s) := by omega
    clear h
    rcases hc with hc | ⟨hc, hd⟩
    all_goals
      go_enter Tryz.func85, Tryz.ntmps85
      go_wp2_with fail
      go_ret
      first | exact ⟨rfl, rfl⟩ | exact ⟨congrArg (fun b => Ending.returned (.bool b)) (decide_eq_false (by omega)), rfl⟩
theorem mayBe_any (v n : Int) (w : World) : Calls Tryz.prog 151 #[.int .i64 v, .int .i64 n] w fun e w' => e = .returned (.bool (bdB v n)) ∧ w = w' := by
  by_cases h : 0 ≤ v ∧ v ≤ 11 ∧ 1 ≤ n ∧ n ≤ 1048576
  · rw [show bdB v n = true from decide_eq_true h]
    obtain ⟨h0, h1, h2, h3⟩ := h
    have g1 : v < 12 := by omega
    go_enter Tryz.func151, Tryz.ntmps151
    go_wp2_with fail
    go_ret
    exact ⟨rfl, rfl⟩
  · rw [show bdB v n = false from decide_eq_false h]
    have hc : v < 0 ∨ (0 ≤ v ∧ 12 ≤ v) ∨ (0 ≤ v ∧ v < 12 ∧ n < 1) ∨ (0 ≤ v ∧ v < 12 ∧ 1 ≤ n ∧ 1048576 < n) := by omega
    clear h
    rcases hc with hc | ⟨hc, hd⟩ | ⟨hc, hd, he⟩ | ⟨hc, hd, he, hf⟩
    all_goals
      go_enter Tryz.func151, Tryz.ntmps151
      go_wp2_with fail
      go_ret
      first | exact ⟨rfl, rfl⟩ | exact ⟨congrArg (fun b => Ending.returned (.bool b)) (decide_eq_false (by omega)), rfl⟩
theorem split21 (a : Int) (w : World) : Calls Tryz.prog 115 #[.int .i64 a, .int .i64 21] w fun e w' => e = .returned (.tuple #[.int .i64 (a / 2097152), .int .i64 (a % 2097152)]) ∧ w' = w.drew := by
  have H := Lib.hid (and21 a)
  go_enter Tryz.func115, Tryz.ntmps115
  go_wp2_with fail
  go_region
  go_wp2_with fail
  go_ret2
  exact ⟨congrArg (fun n => Ending.returned (.tuple #[.int .i64 (a / 2097152), .int .i64 n])) H.out, rfl⟩
theorem split4 (a : Int) (w : World) : Calls Tryz.prog 115 #[.int .i64 a, .int .i64 4] w fun e w' => e = .returned (.tuple #[.int .i64 (a / 16), .int .i64 (a % 16)]) ∧ w' = w.drew := by
  have H := Lib.hid (and15 a)
  go_enter Tryz.func115, Tryz.ntmps115
  go_wp2_with fail
  go_region
  go_wp2_with fail
  go_ret2
  exact ⟨congrArg (fun n => Ending.returned (.tuple #[.int .i64 (a / 16), .int .i64 n])) H.out, rfl⟩
def hnd (t v : Int) : Value := .agg #[.int .i64 t, .int .i64 v]
theorem named_any (a : Int) (w : World) : Calls Tryz.prog 80 #[.int .i64 a] w fun e w' => e = .returned (hnd (a % 16) (a / 16)) ∧ Below w.heap.size w w' := by
  have H := Lib.hid (split4 a)
  go_enter Tryz.func80, Tryz.ntmps80
  go_wp2_with fail
  refine (H.out _).mono ?_
  rintro e w' ⟨rfl, rfl⟩
  go_wp2_with fail
  refine bodyPost_ret (v := hnd (a % 16) (a / 16)) (by simp [results, Tryz.results80, go_sem, hnd]; try rfl) rfl ⟨rfl, ?_⟩
  exact ((Below.refl _ _).alloc (Nat.le_refl _) _).drew
theorem isVersion_any (n : Int) (ln : W64 n) (w : World) : Calls Tryz.prog 98 #[.int .i64 n] w fun e w' => e = .returned (.bool (decide (0 ≤ n ∧ n ≤ 4294967295))) ∧ w = w' := by
  by_cases h : 0 ≤ n ∧ n ≤ 4294967295
  · have H := Lib.hid (word_yes n 0 h.1 h.2 (by decide) (by decide))
    rw [decide_eq_true h]
    clear h ln
    go_enter Tryz.func98, Tryz.ntmps98
    go_wp2_with fail
    refine (H.out _).mono ?_
    rintro e w' ⟨rfl, rfl⟩
    go_wp2_with fail
    go_ret
    exact ⟨rfl, rfl⟩
  · have H := Lib.hid (word_no n 0 (fun x => h ⟨x.1, x.2.1⟩) ln.1 ln.2 (by decide) (by decide))
    rw [decide_eq_false h]
    clear h ln
    go_enter Tryz.func98, Tryz.ntmps98
    go_wp2_with fail
    refine (H.out _).mono ?_
    rintro e w' ⟨rfl, rfl⟩
    go_wp2_with fail
    go_ret
    exact ⟨rfl, rfl⟩
theorem sState_any (a : Int) (la : W64 a) (w : World) :
    Calls Tryz.prog 48 #[.int .i64 a] w fun e w' => e = .returned (.int .i64 (stS a)) ∧ Below w.heap.size w w' := by
  by_cases h : 0 ≤ pval a ∧ pval a ≤ 3
  · have hI := isState_any (pval a)
    rw [show tnB (pval a) = true from decide_eq_true h] at hI
    have HI := Lib.hid hI
    rw [show stS a = pval a from if_pos h]
    clear hI
    obtain ⟨h0, h1⟩ := h
    go_enter Tryz.func48, Tryz.ntmps48
    go_wp2_with fail
    refine (Value_any a la.1 la.2 _).mono ?_
    rintro e w' ⟨rfl, rfl⟩
    go_wp2_with fail
    refine (HI.out _).mono ?_
    rintro e w' ⟨rfl, rfl⟩
    go_wp2_with fail
    go_ret
    exact ⟨rfl, Below.refl _ _⟩
  · have hI := isState_any (pval a)
    rw [show tnB (pval a) = false from decide_eq_false h] at hI
    have HI := Lib.hid hI
    rw [show stS a = -1 from if_neg h]
    clear hI h
    go_enter Tryz.func48, Tryz.ntmps48
    go_wp2_with fail
    refine (Value_any a la.1 la.2 _).mono ?_
    rintro e w' ⟨rfl, rfl⟩
    go_wp2_with fail
    refine (HI.out _).mono ?_
    rintro e w' ⟨rfl, rfl⟩
    go_wp2_with fail
    go_ret
    exact ⟨rfl, Below.refl _ _⟩
theorem sTurn_any (a s : Int) (la : W64 a) (ls : W64 s) (w : World) :
    Calls Tryz.prog 141 #[.int .i64 a, .int .i64 s] w fun e w' => e = .returned (.tuple #[.int .i64 (tnV a s), .bool (tnB s)]) ∧ Below w.heap.size w w' := by
  have hI := isState_any s
  by_cases h : 0 ≤ s ∧ s ≤ 3
  · have hB : tnB s = true := decide_eq_true h
    rw [hB] at hI
    have HI := Lib.hid hI
    rw [show tnV a s = tnW a s from if_pos hB, hB]
    have HN := Lib.hid (Next_yes a s (by omega) (by omega) la.1 la.2)
    unfold tnW
    clear la ls hB hI h
    go_enter Tryz.func141, Tryz.ntmps141
    go_wp2_with fail
    refine (HI.out _).mono ?_
    rintro e w' ⟨rfl, rfl⟩
    go_wp2_with fail
    refine (HN.out _).mono ?_
    rintro e w' ⟨rfl, rfl⟩
    go_wp2_with fail
    go_ret2
    exact ⟨rfl, Below.refl _ _⟩
  · have hB : tnB s = false := decide_eq_false h
    rw [hB] at hI
    have HI := Lib.hid hI
    rw [show tnV a s = 0 from if_neg (by rw [hB]; decide), hB]
    clear h hB hI
    go_enter Tryz.func141, Tryz.ntmps141
    go_wp2_with fail
    refine (HI.out _).mono ?_
    rintro e w' ⟨rfl, rfl⟩
    go_wp2_with fail
    go_ret2
    exact ⟨rfl, Below.refl _ _⟩
theorem sOf_any (a : Int) (la : W64 a) (w : World) :
    Calls Tryz.prog 143 #[.int .i64 a] w fun e w' => e = .returned (.tuple #[.int .i64 (ofV a), .int .i64 (ofN a), .bool (ofB a)]) ∧ Below w.heap.size w w' := by
  have H := Lib.hid (split21 a)
  have hI := mayBe_any (a / 2097152) (a % 2097152)
  have hBB : bdB (a / 2097152) (a % 2097152) = ofB a := by unfold bdB ofB; congr 1; apply propext; constructor <;> (intro h; omega)
  by_cases h : ofB a = true
  · rw [show ofV a = a / 2097152 from if_pos h, show ofN a = a % 2097152 from if_pos h, h]
    rw [hBB, h] at hI
    have HI := Lib.hid hI
    clear h hBB hI la
    go_enter Tryz.func143, Tryz.ntmps143
    go_wp2_with fail
    refine (H.out _).mono ?_
    rintro e w' ⟨rfl, rfl⟩
    go_wp2_with fail
    refine (HI.out _).mono ?_
    rintro e w' ⟨rfl, rfl⟩
    go_wp2_with fail
    go_ret3
    exact ⟨rfl, (Below.refl _ _).drew⟩
  · have hf : ofB a = false := by simpa using h
    rw [show ofV a = 0 from if_neg h, show ofN a = 0 from if_neg h, hf]
    rw [hBB, hf] at hI
    have HI := Lib.hid hI
    clear h hf hBB hI la
    go_enter Tryz.func143, Tryz.ntmps143
    go_wp2_with fail
    refine (H.out _).mono ?_
    rintro e w' ⟨rfl, rfl⟩
    go_wp2_with fail
    refine (HI.out _).mono ?_
    rintro e w' ⟨rfl, rfl⟩
    go_wp2_with fail
    go_ret3
    exact ⟨rfl, (Below.refl _ _).drew⟩
theorem sNamed_any (h k : Int) (lh : W64 h) (k0 : 1 ≤ k) (k1 : k ≤ 16) (w : World) :
    Calls Tryz.prog 51 #[.int .i64 h, .int .i64 k] w fun e w' => e = .returned (.tuple #[.int .i64 (nmT h k), .int .i64 (nmV h k), .bool (nmB h k)]) ∧ Below w.heap.size w w' := by
  have HM := Lib.hid (named_any h)
  have hI := isVersion_any (h / 16) (by unfold W64 at *; omega)
  unfold hnd at HM
  by_cases hh : 0 ≤ h / 16 ∧ h / 16 ≤ 4294967295
  · rw [decide_eq_true hh] at hI
    by_cases hk : h % 16 < k
    · have hn : nmB h k = true := decide_eq_true ⟨by omega, hk, hh.2⟩
      rw [show nmT h k = h % 16 from if_pos hn, show nmV h k = h / 16 from if_pos hn, hn]
      have HI := Lib.hid hI
      clear hI hh hn lh k0 k1
      generalize h % 16 = x at *
      generalize h / 16 = y at *
      go_enter Tryz.func51, Tryz.ntmps51
      go_wp2_with fail
      refine (HM.out _).mono ?_
      rintro e w2 ⟨rfl, hb⟩
      go_wp2_with fail
      refine (HI.out _).mono ?_
      rintro e w' ⟨rfl, rfl⟩
      go_wp2_with fail
      go_region
      go_wp2_with fail
      go_ret3
      exact ⟨rfl, (hb.alloc hb.size _).drew⟩
    · have hn : nmB h k = false := decide_eq_false (by omega)
      have hk' : k ≤ h % 16 := by omega
      rw [show nmT h k = 0 from if_neg (by rw [hn]; decide), show nmV h k = 0 from if_neg (by rw [hn]; decide), hn]
      have HI := Lib.hid hI
      clear hI hh hn lh k0 k1 hk
      generalize h % 16 = x at *
      generalize h / 16 = y at *
      go_enter Tryz.func51, Tryz.ntmps51
      go_wp2_with fail
      refine (HM.out _).mono ?_
      rintro e w2 ⟨rfl, hb⟩
      go_wp2_with fail
      refine (HI.out _).mono ?_
      rintro e w' ⟨rfl, rfl⟩
      go_wp2_with fail
      go_ret3
      exact ⟨rfl, hb.alloc hb.size _⟩
  · rw [decide_eq_false hh] at hI
    have hn : nmB h k = false := decide_eq_false (by omega)
    rw [show nmT h k = 0 from if_neg (by rw [hn]; decide), show nmV h k = 0 from if_neg (by rw [hn]; decide), hn]
    have HI := Lib.hid hI
    clear hI hh hn lh k0 k1
    generalize h % 16 = x at *
    generalize h / 16 = y at *
    go_enter Tryz.func51, Tryz.ntmps51
    go_wp2_with fail
    refine (HM.out _).mono ?_
    rintro e w2 ⟨rfl, hb⟩
    go_wp2_with fail
    refine (HI.out _).mono ?_
    rintro e w' ⟨rfl, rfl⟩
    go_wp2_with fail
    go_ret3
    exact ⟨rfl, hb.alloc hb.size _⟩
end Go.Proofs.YtjfjjmlocgmicaaGreat
end
section
namespace Go.Proofs.YtjfjjmlocgmicaaGreat
open Go.RowKit
set_option linter.unusedVariables false
variable {w0 w w' : World} {F0 : Nat → Prop} {L : List Asn} {P : Program} {F : Fence} {n : Nat}
theorem Own.put {b : Nat} {o : Obj} (h : Own w0 F0 (blk b o :: L) w) (o' : Obj) : Own w0 F0 (blk b o' :: L) (w.putObj b o') := by
  refine h.turn fun F1 h1 => ⟨⟨rfl, rfl, rfl, by simp, fun k hk hn => World.putObj_heap_other (fun e => hn (by subst e; exact (h1.2 k).2 rfl))⟩, F1, ⟨World.putObj_heap_same (getElem?_lt h1.1), h1.2⟩, fun k hk => Or.inl hk⟩
def SeqSep (F : Fence) (n : Nat) (P : Program) (g : Nat) (lb : Array Value) (encs : Nat → Array Value) (N : Nat) (It : Asn) (w0 : World) (F0 : Nat → Prop) (L : List Asn) : Prop :=
  ∀ (l : Nat) (J Jx : Nat → Asn) (W : World),
    (∀ i A W1, i < N → Own w0 F0 (A :: J i :: L) W1 → YieldAt F (n - 1) P l (encs i) W1 fun e W' =>
      (e = .returned (.bool true) ∧ Own w0 F0 (A :: J (i + 1) :: L) W') ∨ (e = .returned (.bool false) ∧ Own w0 F0 (A :: Jx (i + 1) :: L) W')) →
    Own w0 F0 (It :: J 0 :: L) W →
    CallsIn F n P g (#[.func (.yield l) #[] #[]] ++ lb) W fun e W' => (∃ v, e = .returned v) ∧ (Own w0 F0 (J N :: L) W' ∨ ∃ i, i < N ∧ Own w0 F0 (Jx (i + 1) :: L) W')
def sepPost (w0 : World) (F0 : Nat → Prop) (R : Asn) (L : List Asn) (I : Nat → Asn) (Ix : Nat → Code → Asn) (i : Nat) : Exit → Act → World → Prop
  | .normal, _, W' => Own w0 F0 (R :: I (i + 1) :: L) W'
  | .ret, _, W' => Own w0 F0 (R :: Ix i .ret :: L) W'
  | .exit id, _, W' => Own w0 F0 (R :: Ix i (.exit id) :: L) W'
  | .goto t, _, W' => Own w0 F0 (R :: Ix i (.goto t) :: L) W'
  | .panic _, _, _ => False
  | .outgrown, _, _ => False
theorem Own.join {A B : Asn} (h : Own w0 F0 (A :: B :: L) w) : Own w0 F0 (star A B :: L) w := by
  obtain ⟨k0, Fn, ⟨F1, F2, h1, ⟨F3, F4, h3, h4, hd', hF'⟩, hd, hF⟩, hin⟩ := h
  refine ⟨k0, Fn, ⟨fun k => F1 k ∨ F3 k, F4, ⟨F1, F3, h1, h3, fun k a b => hd k a ((hF' k).2 (Or.inl b)), fun _ => Iff.rfl⟩, h4, fun k a b => ?_, fun k => by rw [hF k, hF' k, or_assoc]⟩, hin⟩
  rcases a with a | a
  · exact hd k a ((hF' k).2 (Or.inr b))
  · exact hd' k a b
theorem Own.part {A B : Asn} (h : Own w0 F0 (star A B :: L) w) : Own w0 F0 (A :: B :: L) w := by
  obtain ⟨k0, Fn, ⟨F1, F2, ⟨F3, F4, h3, h4, hd', hF'⟩, h2, hd, hF⟩, hin⟩ := h
  refine ⟨k0, Fn, ⟨F3, fun k => F4 k ∨ F2 k, h3, ⟨F4, F2, h4, h2, fun k a b => hd k ((hF' k).2 (Or.inr a)) b, fun _ => Iff.rfl⟩, fun k a b => ?_, fun k => by rw [hF k, hF' k, or_assoc]⟩, hin⟩
  rcases b with b | b
  · exact hd' k a b
  · exact hd k ((hF' k).2 (Or.inl a)) b
theorem wpIn_rangeFunc_sep {g : Operand} {ps : Array Tmp} {assign body : Code} {Q : Exit → Act → World → Prop} {a : Act}
    (hro : F.round = none) (h1 : 1 ≤ n) {gf : Nat} {lb : Array Value} (hg : a.eval g = .func (.func gf) #[] lb) (hFg : F.fn gf) (eg : ∀ args w, (callFunc gf args).run P w = .ok (.enter gf args) w)
    {encs : Nat → Array Value} {N : Nat} {It : Asn} (hseq : SeqSep F (n - 1) P gf lb encs N It w0 F0 L) (hps : ∀ i, (encs i).size = ps.size)
    (I : Nat → Asn) (Ix : Nat → Code → Asn) (h0 : Own w0 F0 (It :: I 0 :: L) w) (a₁ : Nat → Act)
    (hassign : ∀ (l : Nat) (i : Nat) (W : World) (K : Act → World → Prop), K (a₁ i) W →
      assign.wpIn (F.inRound l) (n - 1 - 1) P (Exit.then K (fun _ _ _ => False)) { tmps := (ps.zip (encs i)).foldl (fun t (p, v) => t.setIfInBounds p v) a.tmps, defers := [] } W)
    (hbody : ∀ (l i : Nat) (R : Asn) (W : World), i < N → Own w0 F0 (R :: I i :: L) W → body.wpIn (F.inRound l) (n - 1 - 1) P (sepPost w0 F0 R L I Ix i) (a₁ i) W)
    (hdone : ∀ (D : Nat) (W : World), Own w0 F0 (blk D (.deferred (some [])) :: I N :: L) W → Q .normal { a with defers := { target := .collected D, args := #[] } :: a.defers } W)
    (hstop : ∀ (D : Nat) (c : Code) (i : Nat) (W : World), i < N → Own w0 F0 (blk D (.deferred (some [])) :: Ix i c :: L) W → c.wpIn F n P Q { a with defers := { target := .collected D, args := #[] } :: a.defers } W) :
    (Code.rangeFunc g ps assign body).wpIn F n P Q a w := by
  refine wpIn_rangeFunc ?_
  intro fn hfn
  rw [hro]
  obtain ⟨rec, hrec⟩ : ∃ rec : LoopState → Option Code → Loop, rec = fun st pe => { state := st, pending := pe, fn, tmps := a.tmps, params := ps, assign, body, defers := w.heap.size } := ⟨_, rfl⟩
  obtain ⟨D, hD⟩ : ∃ D, D = w.heap.size := ⟨_, rfl⟩
  obtain ⟨l, hl⟩ : ∃ l, l = w.heap.size + 1 := ⟨_, rfl⟩
  have hO1 : Own w0 F0 (blk l (.loop (rec .ready none)) :: blk D (.deferred (some [])) :: It :: I 0 :: L) ((w.alloc (.deferred (some []))).alloc (.loop (rec .ready none))) := by
    have := (h0.new (.deferred (some []))).new (.loop (rec .ready none))
    rw [World.size_alloc] at this
    rw [hl, hD]; exact this
  refine ⟨w.heap.size + 1, [{ target := .collected w.heap.size, args := #[] }], (w.alloc (.deferred (some []))).alloc (.loop (rec .ready none)), { target := .fn (.func gf) lb, args := #[.func (.yield (w.heap.size + 1)) #[] #[]] }, (w.alloc (.deferred (some []))).alloc (.loop (rec .ready none)), gf,
    #[.func (.yield (w.heap.size + 1)) #[] #[]] ++ lb, (w.alloc (.deferred (some []))).alloc (.loop (rec .ready none)), ?_, ?_, ?_, ?_, fun _ => h1, ?_⟩
  · rw [hrec]; exact run_enterLoop_outer _ _ _ _ _
  · simp only [resolve, hg]
    simp [go_sem]
  · intro f' hf'; simp [Target.leads] at hf'; subst hf'; exact hFg
  · simp [invoke, go_sem, eg]
  · rw [← hl, ← hD]
    refine (hseq l
      (fun i => star (blk l (.loop (rec .ready none))) (star (blk D (.deferred (some []))) (I i)))
      (fun i => ex fun c : Code => star (blk l (.loop (rec .done (some c)))) (star (blk D (.deferred (some []))) (Ix (i - 1) c)))
      _ ?_ ?_).mono ?_
    · intro i A W hi hO
      have hO : Own w0 F0 (blk l (.loop (rec .ready none)) :: blk D (.deferred (some [])) :: I i :: A :: L) W := by
        have h := hO.swap.part
        have h := h.under fun _ _ h => h.part
        exact h.p3.swap.under fun _ _ h => h.swap.under fun _ _ h => h.swap
      have hbl := hO.block
      have hy := run_yield (P := P) (args := encs i) hbl (by rw [hrec]; exact hps i)
      rw [hrec] at hy
      refine ⟨fn, _, assign, body, hy, roundIn_of_wpIn hfn (hassign _ i W _ ⟨_, run_beginRound hbl (by rw [hrec]), ?_⟩)⟩
      have hO2 := hO.put (.loop { rec .ready none with state := .busy })
      have hO3 : Own w0 F0 (star (blk l (.loop { rec .ready none with state := .busy })) (star (blk D (.deferred (some []))) A) :: I i :: L) (W.putObj l (.loop { rec .ready none with state := .busy })) := by
        have h := hO2.under fun _ _ h => (h.under fun _ _ h => h.swap).join
        exact h.join
      refine wpIn_mono (hbody l i _ _ hi hO3) ?_
      have fin : ∀ (jump : Option Code) (B : Asn) (W3 : World), Own w0 F0 (star (blk l (.loop { rec .ready none with state := .busy })) (star (blk D (.deferred (some []))) A) :: B :: L) W3 →
          (Instr.endRound l jump).run P W3 = .ok (.bool jump.isNone) (W3.putObj l (.loop (rec (if jump.isNone then .ready else .done) jump))) ∧
          Own w0 F0 (A :: star (blk l (.loop (rec (if jump.isNone then .ready else .done) jump))) (star (blk D (.deferred (some []))) B) :: L) (W3.putObj l (.loop (rec (if jump.isNone then .ready else .done) jump))) := fun jump B W3 h3 => by
        have h4 := h3.part
        have hl3 := h4.block
        have hr := run_endRound (P := P) jump hl3
        rw [hrec] at hr ⊢
        refine ⟨hr, ?_⟩
        have h5 := (h4.put (.loop (rec (if jump.isNone then .ready else .done) jump))).under fun _ _ h => h.part.under fun _ _ h => h.swap
        have h6 := (h5.under fun _ _ h => h.join).join
        rw [hrec] at h6
        exact h6.swap
      rintro e a3 W3 hp
      cases e with
      | normal => exact ⟨_, _, (fin none _ W3 hp).1, .inl ⟨rfl, (fin none _ W3 hp).2⟩⟩
      | ret => exact ⟨_, _, (fin (some .ret) _ W3 hp).1, .inr ⟨rfl, (fin (some .ret) _ W3 hp).2.under fun _ _ h => Own.exI (A := fun c : Code => star (blk l (.loop (rec .done (some c)))) (star (blk D (.deferred (some []))) (Ix (i + 1 - 1) c))) _ h⟩⟩
      | exit id => exact ⟨_, _, (fin (some (.exit id)) _ W3 hp).1, .inr ⟨rfl, (fin (some (.exit id)) _ W3 hp).2.under fun _ _ h => Own.exI (A := fun c : Code => star (blk l (.loop (rec .done (some c)))) (star (blk D (.deferred (some []))) (Ix (i + 1 - 1) c))) _ h⟩⟩
      | goto t => exact ⟨_, _, (fin (some (.goto t)) _ W3 hp).1, .inr ⟨rfl, (fin (some (.goto t)) _ W3 hp).2.under fun _ _ h => Own.exI (A := fun c : Code => star (blk l (.loop (rec .done (some c)))) (star (blk D (.deferred (some []))) (Ix (i + 1 - 1) c))) _ h⟩⟩
      | panic ch => exact hp.elim
      | outgrown => exact hp.elim
    · have h := hO1.p2
      exact h.under fun _ _ h => (h.under fun _ _ h => h.join).join
    · rintro e W2 ⟨⟨v, rfl⟩, (h | ⟨i, hi, h⟩)⟩
      · have h := h.part
        refine ⟨none, _, by have := run_endLoop (P := P) h.block (by rw [hrec]; simp); rw [hrec] at this; exact this, ?_⟩
        exact hdone D _ (h.put _).drop.part
      · obtain ⟨c, h⟩ := h.exE
        have h := h.part
        refine ⟨some c, _, by have := run_endLoop (P := P) h.block (by rw [hrec]; simp); rw [hrec] at this; exact this, ?_⟩
        exact hstop D c i _ hi (h.put _).drop.part
theorem wpListIn_append_row {ops : Array Oper} {rest : List Oper} {o : Oper} {a : Act} {Q : Exit → Act → World → Prop} (hgd : o.guard = none) (s x : Operand) (t : TypeId)
    (ho : o.op = .call { callee := .builtin .append, args := #[s, x], argTypes := #[t, t] }) (e : TypeId) (i : TypeInfo) (z : Value) {size bytes : Nat} (ht : P.underlying t = some (.slice e)) (hi : P.info? e = some i) (hz : i.zero = some z)
    (hsize : i.size = size) (hby : i.bytes = bytes) (hzs : z.cells.size = size) (hsz : 0 < size) {v : Value} {k : Nat} {xs : List Value} (hs : a.eval s = v) (h : Own w0 F0 (row v e size k xs :: L) w)
    (ad : Addr) (m c : Nat) (news : List Value) (hx : a.eval x = .slice (some ad) m c) (hl : news.length = m * size)
    (hnews : ∀ j u, news[j]? = some u → w.cell? (ad.add j) = some u) (h1 : ∀ u ∈ news, u.oneCell' = true) (h63 : k + m ≤ maxLen) (hbytes : (k + m) * bytes ≤ 140737488355328)
    (hK : ∀ v' w', Own w0 F0 (row v' e size (k + m) (xs ++ news) :: L) w' → w.grownBy w' v.ownBlock → (v' = .slice none 0 0 ↔ v = .slice none 0 0 ∧ m = 0) → wpListIn F n P ops Q rest (a.put o.dst v') w') : wpListIn F n P ops Q (o :: rest) a w :=
  wpListIn_plain hgd fun _ hK' => by
    obtain ⟨v', w', hr, h2, h3, h4⟩ := run_append_row (P := P) t o.type e i z ht hi hz hsize hby hzs hsz h ad m c news hl hnews h1 h63 hbytes
    unfold Oper.wpIn
    refine ⟨?_, ?_⟩
    · simp [Oper.about, ho, resolve, Target.leads, Sem.run_pure]
    · rw [Oper.semAt_plain F _ _ (by rw [ho]; intro c hc'; cases hc')]
      simp [execOp, ho, resolve, invoke, builtin, hs, hx, hr, Result.andThen]
      exact hK' _ _ (hK v' w' h2 h3 h4)
theorem Own.lift {M : List Asn} (h : Own w0 F0 L w) (k : Own w (fun _ => False) M w') : Own w0 F0 (M ++ L) w' := by
  refine Own.open_ (K := M) ?_
  obtain ⟨k0, G, hG, hin⟩ := h
  obtain ⟨k1, H, hH, hin'⟩ := k
  refine ⟨k0.step k1 (fun i hi => hi.elim), fun k => H k ∨ G k, ⟨H, G, hH, (stars L).loc hG (fun k hk => k1.block k ((stars L).lt hG k hk) (fun h => h)), fun k a b => ?_, fun _ => Iff.rfl⟩, fun k hk => ?_⟩
  · have := (stars L).lt hG k b
    rcases hin' k a with h | h
    · exact h
    · omega
  · rcases hk with hk | hk
    · rcases hin' k hk with h | h
      · exact h.elim
      · have := k0.size; exact Or.inr (by omega)
    · exact hin k hk
end Go.Proofs.YtjfjjmlocgmicaaGreat
end
section
namespace Go.Proofs.YtjfjjmlocgmicaaGreat
open Go.ChangeShapes Go.WideShapes Go.ChangeAt Go.RowKit Go.Shelf
set_option linter.unusedVariables false
set_option linter.unusedSimpArgs false
set_option maxRecDepth 100000
variable {w0 w w' : World} {F0 : Nat → Prop} {L : List Asn} {T : TypeId} {m : Nat} {ws : List Int} {lg : List Acc}
section
variable {g : Nat} {was wd er n : Int} {fr : Bool}
end
section
variable {g b j c : Nat} {was wd er n : Int} {fr : Bool} {p : CP}
end
section
attribute [local go_sem] Oper.semAt_some
end
section
variable {n l : Nat} {P : Program} {ops : Array Oper} {Q : Exit → Act → World → Prop} {md : Region.Mode}
end
section
attribute [local go_sem] Oper.semAt_some
variable {pp pl : Option Addr} {cp cl B i : Nat} {c : Cf} {p : CP} {A R : Asn} {vp vl v vp' : Value}
end
section
variable {g b j c k : Nat} {was wd er n : Int} {fr : Bool} {p : CP} {q : Option Addr} {pp pl : Option Addr} {cp cl : Nat}
end
end Go.Proofs.YtjfjjmlocgmicaaGreat
end
section
namespace Go.Proofs.YtjfjjmlocgmicaaGreat
open Go.ChangeShapes Go.WideShapes Go.ChangeAt Go.RowKit Go.Shelf
set_option linter.unusedVariables false
set_option maxRecDepth 100000
variable {w0 w w' : World} {F0 : Nat → Prop} {L : List Asn} {T : TypeId} {m : Nat} {ws : List Int} {lg : List Acc}
section
end
end Go.Proofs.YtjfjjmlocgmicaaGreat
end
section
namespace Go.Proofs.YtjfjjmlocgmicaaGreat
open Go.ChangeShapes Go.WideShapes Go.ChangeAt Go.RowKit Go.Shelf
set_option linter.unusedVariables false
set_option linter.unusedSimpArgs false
set_option maxRecDepth 100000
variable {w0 w w' : World} {F0 : Nat → Prop} {L : List Asn} {T : TypeId} {m : Nat} {ws : List Int} {lg : List Acc}
section
variable {g : Nat} {nd n mo wa ex er an : Int} {le av : Nat}
end
end Go.Proofs.YtjfjjmlocgmicaaGreat
end
