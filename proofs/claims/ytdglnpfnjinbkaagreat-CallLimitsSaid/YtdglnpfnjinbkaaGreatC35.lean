/- Texts of elder layers, one behind the other: AdmitCode. -/
import Derived.Test.YtdglnpfnjinbkaaGreatC29
import Derived.Test.YtdglnpfnjinbkaaGreatC31
import Derived.Test.YtdglnpfnjinbkaaGreatC34
import Derived.Lib.QuietBelow
namespace Go.Proofs.YtdglnpfnjinbkaaGreat
open Go.ChangeShapes Go.WideShapes Go.ChangeAt Go.RowKit Go.Shelf
open Lib (hid)
set_option linter.unusedVariables false
set_option linter.unusedSimpArgs false
set_option maxRecDepth 100000
set_option maxHeartbeats 4000000
section
variable {w0 w w' W : World} {F0 : Nat -> Prop} {L : List Asn} {T : TypeId} {m : Nat} {ws : List Int} {lg : List Acc}
def asC (c : Cf) (vp vl : Value) (v n t : Int) (kc : Nat) : Array Value := #[.int .i64 c.th, .int .i64 c.st, .int .i64 c.ga, .int .i64 c.le, .int .i64 c.re, .int .i64 c.ti, vp, vl, .int .i64 v, .int .i64 n, .int .i64 t, .pointer (some ⟨kc, 0, none⟩)]
def asVl (c : Cf) (vp vl : Value) (v n t : Int) (kc : Nat) : Value := .agg (asC c vp vl v n t kc)
def asO (c : Cf) (vp vl : Value) (v n t : Int) (kc : Nat) : Obj := .cells (asC c vp vl v n t kc) 152 (0, 0)
def inO (z : Int) : Obj := .cells #[.int .i64 z] 3 (0, 0)
def ptr (b : Nat) : Value := .pointer (some ⟨b, 0, none⟩)
def clo (f : FuncId) (bs : Array Value) : Value := .func (Fn.func f) #[] bs
theorem zZ0 {b : Nat} {c : Cf} {vp vl : Value} {v n t : Int} {kc : Nat} (h : w.heap[b]? = some (asO c vp vl v n t kc)) :
 w.cell? ⟨b, 0, none⟩ = some (.int .i64 c.th) /\ w.cell? ⟨b, 1, none⟩ = some (.int .i64 c.st) /\ w.cell? ⟨b, 2, none⟩ = some (.int .i64 c.ga) /\ w.cell? ⟨b, 3, none⟩ = some (.int .i64 c.le) /\ w.cell? ⟨b, 4, none⟩ = some (.int .i64 c.re) /\ w.cell? ⟨b, 5, none⟩ = some (.int .i64 c.ti) /\ w.cell? ⟨b, 6, none⟩ = some vp /\ w.cell? ⟨b, 7, none⟩ = some vl /\ w.cell? ⟨b, 8, none⟩ = some (.int .i64 v) /\ w.cell? ⟨b, 9, none⟩ = some (.int .i64 n) /\ w.cell? ⟨b, 10, none⟩ = some (.int .i64 t) /\ w.cell? ⟨b, 11, none⟩ = some (.pointer (some ⟨kc, 0, none⟩)) := by
 refine ⟨?_, ?_, ?_, ?_, ?_, ?_, ?_, ?_, ?_, ?_, ?_, ?_⟩ <;> (rw [cell_of_row w b _ _ _ _ h]; rfl)
section
variable {c : Cf} {vp vl : Value} {kc : Nat} {v n t : Int}
theorem mClaim_any (h : Own w0 F0 L w) :
 Calls Tryz.prog 157 #[asVl c vp vl v n t kc] w fun e w' =>
  e = .returned (.agg #[clo 193 #[ptr w.heap.size], clo 194 #[ptr w.heap.size]]) /\ Own w0 F0 (blk w.heap.size (asO c vp vl v n t kc) :: L) w' := by
 have H1 : Own w0 F0 (blk w.heap.size (asO c vp vl v n t kc) :: L) (w.alloc (asO c vp vl v n t kc)) := h.new _
 have H := hid (fun o => H1.alloc o)
 unfold asVl asC clo ptr
 unfold asO asC at H
 clear h H1
 go_enter Tryz.func157, Tryz.ntmps157
 go_wp2_with fail
 (try simp only [Exit.inBlock, Exit.then])
 refine bodyPost_ret (by simp [results, Tryz.results157, go_sem, *]; try rfl) rfl ?_
 exact ⟨rfl, H.out _⟩
theorem mAcquire_any (u : Int) (h : Own w0 F0 L w) :
 Calls Tryz.prog 158 #[asVl c vp vl v n t kc, .int .i64 u] w fun e w' =>
  e = .returned (.agg #[clo 196 #[ptr w.heap.size, ptr (w.heap.size + 1)], clo 199 #[ptr w.heap.size, ptr (w.heap.size + 1)]]) /\ Own w0 F0 (blk w.heap.size (asO c vp vl v n t kc) :: blk (w.heap.size + 1) (inO u) :: L) w' := by
 have H1 : Own w0 F0 (blk w.heap.size (asO c vp vl v n t kc) :: blk (w.heap.size + 1) (inO u) :: L) ((w.alloc (asO c vp vl v n t kc)).alloc (inO u)) := by
  have h2 := (h.new (asO c vp vl v n t kc)).new (inO u)
  rw [show (w.alloc (asO c vp vl v n t kc)).heap.size = w.heap.size + 1 by simp] at h2
  exact h2.swap
 have H := hid (fun o => H1.alloc o)
 unfold asVl asC clo ptr
 unfold asO asC inO at H
 clear h H1
 go_enter Tryz.func158, Tryz.ntmps158
 go_wp2_with fail
 (try simp only [Exit.inBlock, Exit.then])
 refine bodyPost_ret (by simp [results, Tryz.results158, go_sem, *]; try rfl) rfl ?_
 exact ⟨rfl, H.out _⟩
theorem mShow_any (h : Own w0 F0 L w) :
 Calls Tryz.prog 160 #[asVl c vp vl v n t kc] w fun e w' =>
  e = .returned (.agg #[clo 204 #[ptr w.heap.size], .nilFunc]) /\ Own w0 F0 (blk w.heap.size (asO c vp vl v n t kc) :: L) w' := by
 have H1 : Own w0 F0 (blk w.heap.size (asO c vp vl v n t kc) :: L) (w.alloc (asO c vp vl v n t kc)) := h.new _
 have H := hid (fun o => H1.alloc o)
 unfold asVl asC clo ptr
 unfold asO asC at H
 clear h H1
 go_enter Tryz.func160, Tryz.ntmps160
 go_wp2_with fail
 (try simp only [Exit.inBlock, Exit.then])
 refine bodyPost_ret (by simp [results, Tryz.results160, go_sem, *]; try rfl) rfl ?_
 exact ⟨rfl, H.out _⟩
theorem mCount_any (u : Int) (h : Own w0 F0 L w) :
 Calls Tryz.prog 161 #[asVl c vp vl v n t kc, .int .i64 u] w fun e w' =>
  e = .returned (.agg #[clo 205 #[ptr w.heap.size, ptr (w.heap.size + 1)], .nilFunc]) /\ Own w0 F0 (blk w.heap.size (asO c vp vl v n t kc) :: blk (w.heap.size + 1) (inO u) :: L) w' := by
 have H1 : Own w0 F0 (blk w.heap.size (asO c vp vl v n t kc) :: blk (w.heap.size + 1) (inO u) :: L) ((w.alloc (asO c vp vl v n t kc)).alloc (inO u)) := by
  have h2 := (h.new (asO c vp vl v n t kc)).new (inO u)
  rw [show (w.alloc (asO c vp vl v n t kc)).heap.size = w.heap.size + 1 by simp] at h2
  exact h2.swap
 have H := hid (fun o => H1.alloc o)
 unfold asVl asC clo ptr
 unfold asO asC inO at H
 clear h H1
 go_enter Tryz.func161, Tryz.ntmps161
 go_wp2_with fail
 (try simp only [Exit.inBlock, Exit.then])
 refine bodyPost_ret (by simp [results, Tryz.results161, go_sem, *]; try rfl) rfl ?_
 exact ⟨rfl, H.out _⟩
theorem mFill_any (hv : W64 v) (hn : W64 n) (h : Own w0 F0 L w) :
 Calls Tryz.prog 159 #[asVl c vp vl v n t kc] w fun e w' => ∃ b b2,
  e = .returned (.agg #[clo 202 #[ptr b, ptr b2], .nilFunc]) /\ Own w0 F0 (blk b (asO c vp vl v n t kc) :: blk b2 (inO (bdV v n)) :: L) w' := by
 have HB := fun w => hid (sBody_any v n hv hn w)
 have H2 := (h.new (asO c vp vl v n t kc)).new (.cells #[.nilFunc, .nilFunc] 190)
 rw [show (w.alloc (asO c vp vl v n t kc)).heap.size = w.heap.size + 1 by simp] at H2
 obtain ⟨c0, c1, c2, c3, c4, c5, c6, c7, c8, c9, c10, c11⟩ := zZ0 H2.swap.block
 have H2' := hid H2
 unfold asVl asC clo ptr
 unfold asO asC at H2' c0 c1 c2 c3 c4 c5 c6 c7 c8 c9 c10 c11
 clear h hv hn H2
 go_enter Tryz.func159, Tryz.ntmps159
 go_wp2_with fail
 refine (HB _).out.mono ?_
 rintro e w1 ⟨rfl, hB1⟩
 have h3 := (((H2'.out.below hB1).new (inO (bdV v n))).swap)
 have cf : ∀ j, World.frozen? _ ⟨w.heap.size + 1, j, none⟩ = false := fun j => h3.unfrozen
 have d0 := h3.cell (i := 0) rfl
 have d1 := h3.cell (i := 1) rfl
 have H3 := hid (((h3.set 0 (.func (Fn.func 202) #[] #[.pointer (some ⟨w.heap.size, 0, none⟩), .pointer (some ⟨w1.heap.size, 0, none⟩)])).set 1 .nilFunc).drop.swap)
 unfold inO at *
 clear h3 H2' HB c0 c1 c2 c3 c4 c5 c6 c7 c8 c9 c10 c11 hB1
 go_wp2_with fail
 (try simp only [Exit.inBlock, Exit.then])
 refine bodyPost_ret (by simp [results, Tryz.results159, go_sem, *]; try rfl) rfl ?_
 exact ⟨_, _, rfl, H3.out⟩
end
section
variable {c : Cf} {pp pl : Option Addr} {np cp nl cl kc : Nat} {v n t : Int} {q : CP} {s : CS} {l : List (Nat × Obj)} {b b2 : Nat}
theorem fldAN (e n : Int) (x : Bool) (q : Int) (w : World) : (Instr.field 50 (.agg #[.int .i64 e, .int .i64 n, .bool x, .int .i64 q]) 1).run Tryz.prog w = .ok (.int .i64 n) w := by kernel_rfl
theorem mStripe_any (hc : 1 <= c.st) (w : World) :
 Calls Tryz.prog 198 #[asVl c (.slice pp np cp) (.slice pl nl cl) v n t kc] w fun e w' => e = .returned (.int .i64 (t.tmod c.st)) /\ Below w.heap.size w w' := by
 have H1 := (Own.start w).new (asO c (.slice pp np cp) (.slice pl nl cl) v n t kc)
 obtain ⟨c0, c1, c2, c3, c4, c5, c6, c7, c8, c9, c10, c11⟩ := zZ0 H1.block
 have HB := hid H1.toBelow
 have hm : (if c.st < 1 then (1 : Int) else c.st) = c.st := if_neg (by omega)
 have hm2 : (if 1 < c.st then c.st else (1 : Int)) = c.st := by split <;> omega
 have hz1 : (c.st == 0) = false := by rw [beq_eq_false_iff_ne]; omega
 have hz2 : ¬ c.st = 0 := by omega
 unfold asVl asC
 unfold asO asC at HB
 clear H1
 go_enter Tryz.func198, Tryz.ntmps198
 go_wp2_with fail
 go_ret
 exact ⟨rfl, HB.out⟩
theorem mWord_any (hs : Sm c) (hn : np <= 12) (h16 : s.n <= 16) (h : Own w0 F0 (clA kc q s :: L) w) :
 Calls Tryz.prog 203 #[asVl c (.slice pp np cp) (.slice pl nl cl) v n t kc] w fun e w' => e = .returned (.int .i64 (lim c np + 2 * s.n)) /\ Below w.heap.size w w' := by
 have HA := fun w' (h : Own w0 F0 (clA kc q s :: L) w') => hid (zUd h)
 have HT := fun w' => hid (zQy (pp := pp) (np := np) (cp := cp) (pl := pl) (nl := nl) (cl := cl) c hs hn (s.n : Int) (by omega) (by omega) w')
 have H1 := (Own.start w).new (asO c (.slice pp np cp) (.slice pl nl cl) v n t kc)
 obtain ⟨c0, c1, c2, c3, c4, c5, c6, c7, c8, c9, c10, c11⟩ := zZ0 H1.block
 have HB := hid H1.toBelow
 have HO := hid (h.below HB.out)
 have fN := fldAN (erC s) (s.n : Int) false 0
 unfold asVl asC ansV at *
 unfold asO asC at HB HO c0 c1 c2 c3 c4 c5 c6 c7 c8 c9 c10 c11
 clear H1 h h16 hn hs
 generalize lim c np + 2 * (s.n : Int) = R at *
 generalize (s.n : Int) = sn at *
 generalize erC s = er at *
 go_enter Tryz.func203, Tryz.ntmps203
 go_wp2_with fail
 generalize World.alloc _ _ = w1 at *
 have k0 := cell_regrown c0
 have k1 := cell_regrown c1
 have k2 := cell_regrown c2
 have k3 := cell_regrown c3
 have k4 := cell_regrown c4
 have k5 := cell_regrown c5
 have k6 := cell_regrown c6
 have k7 := cell_regrown c7
 have k8 := cell_regrown c8
 have k9 := cell_regrown c9
 have k10 := cell_regrown c10
 have k11 := cell_regrown c11
 have C1 := fun (d : Nat) (os : Array Obj) => Calls.regrown_of (HA (Go.Sort.grow (redrawn w1 d) os) (HO.out.below (below_regrown w1 d os))).out
 have C2 := fun (d : Nat) (os : Array Obj) => Calls.regrown_of (HT (Go.Sort.grow (redrawn w1 d) os)).out
 try dsimp only [List.append]
 refine wp_region_quiet_below (by kernel_rfl) (by kernel_rfl) ?_
 repeat (go_big_quiet_step ((first | (go_at_call 163; with_reducible exact C1 _ _) | (go_at_call 155; with_reducible exact C2 _ _))))
 refine wpQuiet_nil ?_
 intro _ hw'
 obtain ⟨⟨dq, osq⟩, hw''⟩ := hw'
 subst hw''
 have hb2 := hid (zYy HB.out (below_regrown w1 dq osq))
 clear k0 k1 k2 k3 k4 k5 k6 k7 k8 k9 k10 k11 C1 C2 HB HT HA
 generalize Go.Sort.grow (redrawn w1 dq) osq = wz at *
 go_wp2_with fail
 go_ret
 exact ⟨rfl, hb2.out⟩
theorem tnV_two (a : Int) : tnV a 2 = tnW a 2 := by unfold tnV; rw [if_pos (by decide)]
theorem tnV_zero (a : Int) : tnV a 0 = tnW a 0 := by unfold tnV; rw [if_pos (by decide)]
theorem zT0 (tw : Int) (hto : tw = 0 ∨ tw = 2) (hI : I64 s.put) (h : Own w0 F0 (clA kc q s :: L) w) :
 Calls Tryz.prog 164 #[asVl c (.slice pp np cp) (.slice pl nl cl) v n t kc, .int .i64 tw] w fun e w' => e = .returned (.int .i64 (tnW s.put tw)) /\ Below w.heap.size w w' := by
 have HA := fun w' (h : Own w0 F0 (clA kc q s :: L) w') => hid (clWord_any h)
 have HT := fun w' => hid (zV1 s.put tw hI (by unfold W64; omega) w')
 rw [show tnV s.put tw = tnW s.put tw by rcases hto with rfl | rfl; exact tnV_zero _; exact tnV_two _] at HT
 have H1 := (Own.start w).new (asO c (.slice pp np cp) (.slice pl nl cl) v n t kc)
 obtain ⟨c0, c1, c2, c3, c4, c5, c6, c7, c8, c9, c10, c11⟩ := zZ0 H1.block
 have HB := hid H1.toBelow
 have HO := hid (h.below HB.out)
 unfold asVl asC
 unfold asO asC at HB HO c0 c1 c2 c3 c4 c5 c6 c7 c8 c9 c10 c11
 clear H1 h hI hto
 generalize tnW s.put tw = R at *
 generalize s.put = sp at *
 go_enter Tryz.func164, Tryz.ntmps164
 go_wp2_with fail
 refine (HA _ HO.out).out.mono ?_
 rintro e w1 ⟨rfl, hB1⟩
 have HB1 := hid (zYy HB.out hB1)
 clear hB1 HB HA HO c0 c1 c2 c3 c4 c5 c6 c7 c8 c9 c10 c11
 go_wp2_with fail
 refine (HT _).out.mono ?_
 rintro e w2 ⟨rfl, hB2⟩
 have HB2 := hid (zYy HB1.out hB2)
 clear hB2 HB1 HT
 go_wp2_with fail
 go_ret
 exact ⟨rfl, HB2.out⟩
def stO (a x : Int) (en : Bool) : Obj := .cells #[.int .i64 a, .int .i64 x, .bool en] 223 (0, 0)
theorem mTurn_any (tw : Int) (hto : tw = 0 ∨ tw = 2) (hI : I64 s.put) (hs : Sm c) (hn : np <= 12) (h16 : s.n <= 16) (h : Own w0 F0 (clA kc q s :: L) w) :
 Calls Tryz.prog 195 #[asVl c (.slice pp np cp) (.slice pl nl cl) v n t kc, .int .i64 tw] w fun e w' => ∃ g, e = .returned (.iface 221 (ptr g)) /\ Own w0 F0 (blk g (stO (lim c np + 2 * s.n) (tnW s.put tw) false) :: clA kc q s :: L) w' := by
 have HW := fun L w' (h : Own w0 F0 (clA kc q s :: L) w') => hid (mWord_any (c := c) (pp := pp) (np := np) (cp := cp) (pl := pl) (nl := nl) (cl := cl) (v := v) (n := n) (t := t) hs hn h16 h)
 have HT := fun L w' (h : Own w0 F0 (clA kc q s :: L) w') => hid (zT0 (c := c) (pp := pp) (np := np) (cp := cp) (pl := pl) (nl := nl) (cl := cl) (v := v) (n := n) (t := t) tw hto hI h)
 have h1 := h.new (asO c (.slice pp np cp) (.slice pl nl cl) v n t kc)
 obtain ⟨c0, c1, c2, c3, c4, c5, c6, c7, c8, c9, c10, c11⟩ := zZ0 h1.block
 have hO := h1.drew.swap
 obtain ⟨BX, hBX⟩ : ∃ BX, BX = w.heap.size := ⟨_, rfl⟩
 rw [<- hBX] at c0 c1 c2 c3 c4 c5 c6 c7 c8 c9 c10 c11 hO
 unfold asVl asC at *
 unfold ptr
 clear h h1 hs hn h16 hI hto
 generalize lim c np + 2 * (s.n : Int) = R at *
 generalize tnW s.put tw = R2 at *
 go_enter Tryz.func195, Tryz.ntmps195
 go_wp2_with fail
 unfold asO asC at hO c0 c1 c2 c3 c4 c5 c6 c7 c8 c9 c10 c11
 rw [<- hBX]
 clear hBX
 go_region_held3 (fun w' => w'.cell? ⟨BX, 0, none⟩ = some (.int .i64 c.th) /\ w'.cell? ⟨BX, 1, none⟩ = some (.int .i64 c.st) /\ w'.cell? ⟨BX, 2, none⟩ = some (.int .i64 c.ga) /\ w'.cell? ⟨BX, 3, none⟩ = some (.int .i64 c.le) /\ w'.cell? ⟨BX, 4, none⟩ = some (.int .i64 c.re) /\ w'.cell? ⟨BX, 5, none⟩ = some (.int .i64 c.ti) /\ w'.cell? ⟨BX, 6, none⟩ = some (.slice pp np cp) /\ w'.cell? ⟨BX, 7, none⟩ = some (.slice pl nl cl) /\ w'.cell? ⟨BX, 8, none⟩ = some (.int .i64 v) /\ w'.cell? ⟨BX, 9, none⟩ = some (.int .i64 n) /\ w'.cell? ⟨BX, 10, none⟩ = some (.int .i64 t) /\ w'.cell? ⟨BX, 11, none⟩ = some (.pointer (some ⟨kc, 0, none⟩))) (go_keep) (first | (go_at_call 203; refine (HW _ _ (by with_reducible assumption)).out.mono ?_; rintro e w' ⟨rfl, hB⟩; have hO := Own.below (by with_reducible assumption) hB; obtain ⟨c0, c1, c2, c3, c4, c5, c6, c7, c8, c9, c10, c11⟩ := zZ0 hO.swap.block; have e0 := World.new_ne w' _ c0; have hlt := World.block_lt_of_cell? w' _ c0) | (go_at_call 164; refine (HT _ _ (by with_reducible assumption)).out.mono ?_; rintro e w' ⟨rfl, hB⟩; have hO := Own.below (by with_reducible assumption) hB; obtain ⟨c0, c1, c2, c3, c4, c5, c6, c7, c8, c9, c10, c11⟩ := zZ0 hO.swap.block; have e0 := World.new_ne w' _ c0; have hlt := World.block_lt_of_cell? w' _ c0))
 all_goals
  have hF := hid ((hO.under fun _ _ h => h.drop).new (stO R R2 false))
  unfold stO at hF
  clear hO
  go_wp2_with fail
  go_ret
  exact ⟨_, rfl, hF.out⟩
theorem zUs (hb : w.heap[b]? = some (asO c (.slice pp np cp) (.slice pl nl cl) v n t kc)) :
 Calls Tryz.prog 193 #[ptr b] w fun e w' => e = .returned (.iface 149 (ptr kc)) /\ w = w' := by
 obtain ⟨c0, c1, c2, c3, c4, c5, c6, c7, c8, c9, c10, c11⟩ := zZ0 hb
 unfold ptr
 clear hb
 go_enter Tryz.func193, Tryz.ntmps193
 go_wp2_with fail
 go_ret
 exact ⟨rfl, rfl⟩
theorem kFree_any (hI : I64 s.put) (hs : Sm c) (hn : np <= 12) (h16 : s.n <= 16) (hb : w.heap[b]? = some (asO c (.slice pp np cp) (.slice pl nl cl) v n t kc)) (h : Own w0 F0 (clA kc q s :: L) w) :
 Calls Tryz.prog 194 #[ptr b] w fun e w' => ∃ g, e = .returned (.iface 221 (ptr g)) /\ Own w0 F0 (blk g (stO (lim c np + 2 * s.n) (tnW s.put 0) false) :: clA kc q s :: L) w' := by
 obtain ⟨c0, c1, c2, c3, c4, c5, c6, c7, c8, c9, c10, c11⟩ := zZ0 hb
 have HT := hid (mTurn_any (c := c) (pp := pp) (np := np) (cp := cp) (pl := pl) (nl := nl) (cl := cl) (v := v) (n := n) (t := t) 0 (Or.inl rfl) hI hs hn h16 h)
 unfold asVl asC at HT
 unfold ptr at *
 clear hb h hI hs hn h16
 go_enter Tryz.func194, Tryz.ntmps194
 go_wp2_with fail
 refine HT.out.mono ?_
 rintro e w1 ⟨g, rfl, hO⟩
 have HO := hid hO
 clear hO HT
 go_wp2_with fail
 go_ret
 exact ⟨g, rfl, HO.out⟩
theorem kShow_any (hI : I64 s.put) (hs : Sm c) (hn : np <= 12) (h16 : s.n <= 16) (hb : w.heap[b]? = some (asO c (.slice pp np cp) (.slice pl nl cl) v n t kc)) (h : Own w0 F0 (clA kc q s :: L) w) :
 Calls Tryz.prog 204 #[ptr b] w fun e w' => ∃ g, e = .returned (.iface 221 (ptr g)) /\ Own w0 F0 (blk g (stO (lim c np + 2 * s.n) (tnW s.put 2) false) :: clA kc q s :: L) w' := by
 obtain ⟨c0, c1, c2, c3, c4, c5, c6, c7, c8, c9, c10, c11⟩ := zZ0 hb
 have HT := hid (mTurn_any (c := c) (pp := pp) (np := np) (cp := cp) (pl := pl) (nl := nl) (cl := cl) (v := v) (n := n) (t := t) 2 (Or.inr rfl) hI hs hn h16 h)
 unfold asVl asC at HT
 unfold ptr at *
 clear hb h hI hs hn h16
 go_enter Tryz.func204, Tryz.ntmps204
 go_wp2_with fail
 refine HT.out.mono ?_
 rintro e w1 ⟨g, rfl, hO⟩
 have HO := hid hO
 clear hO HT
 go_wp2_with fail
 go_ret
 exact ⟨g, rfl, HO.out⟩
theorem kRefund_any (hs : Sm c) {u : Int} (u0 : 0 <= u) (u1 : u <= 12) (hb : w.heap[b]? = some (asO c (.slice pp np cp) (.slice pl nl cl) v n t kc)) (hb2 : w.heap[b2]? = some (inO u)) (h : Own w0 F0 L w) :
 Calls Tryz.prog 199 #[ptr b, ptr b2] w fun e w' => ∃ g, e = .returned (.iface 138 (ptr g)) /\ ∃ b3, Own w0 F0 (blk g (smO b3 1 0 u n (lim c u) (lim c u + 1) 0 0 0) :: blk b3 row1 :: L) w' := by
 obtain ⟨c0, c1, c2, c3, c4, c5, c6, c7, c8, c9, c10, c11⟩ := zZ0 hb
 have d0 : w.cell? ⟨b2, 0, none⟩ = some (.int .i64 u) := by rw [cell_of_row w b2 _ _ _ _ hb2]; rfl
 have HT := fun w h => hid (zS9 (w0 := w0) (F0 := F0) (L := L) (w := w) (pp := pp) (np := np) (cp := cp) (pl := pl) (nl := nl) (cl := cl) c hs u n u0 u1 h)
 unfold ptr at *
 have H := hid h
 clear hb hb2 h hs
 go_enter Tryz.func199, Tryz.ntmps199
 go_wp2_with fail
 refine (HT _ H.out).out.mono ?_
 rintro e w1 ⟨g, b3, rfl, hO⟩
 have HO := hid hO
 clear hO HT
 go_wp2_with fail
 go_ret
 exact ⟨g, rfl, b3, HO.out⟩
theorem zXk (hs : Sm c) (hc1 : 1 <= c.st) (hc8 : c.st <= 8) (t0 : 0 <= t) {u : Int} (u0 : 0 <= u) (u1 : u <= 12) (p : PP) (p0 : (p.av : Int) = lim c u + 1) (p1 : (p.le : Int) = lim c u + 2 + t.tmod c.st) (p2 : p.n = n) (p3 : p.L = c.le)
 (hb : w.heap[b]? = some (asO c (.slice pp np cp) (.slice pl nl cl) v n t kc)) (hb2 : w.heap[b2]? = some (inO u)) (h : Own w0 F0 L w) :
 Calls Tryz.prog 196 #[ptr b, ptr b2] w fun e w' => ∃ g, e = .returned (.iface 219 (ptr g)) /\ Own w0 F0 (poolA g u p s0P :: L) w' := by
 have hm0 : 0 <= t.tmod c.st := Int.tmod_nonneg _ t0
 have hm1 : t.tmod c.st <= 8 := by have := Int.tmod_lt_of_pos t (show 0 < c.st by omega); omega
 have HS := fun w => hid (mStripe_any (c := c) (pp := pp) (np := np) (cp := cp) (pl := pl) (nl := nl) (cl := cl) (kc := kc) (v := v) (n := n) (t := t) hc1 w)
 have HP := fun w => hid (poolNew_any (w0 := w) (F0 := fun _ => False) (L := []) (w := w) (pp := pp) (np := np) (cp := cp) (pl := pl) (nl := nl) (cl := cl) c hs u n (t.tmod c.st) u0 u1 hm0 hm1 p p0 p1 p2 p3 (Own.start w))
 obtain ⟨c0, c1, c2, c3, c4, c5, c6, c7, c8, c9, c10, c11⟩ := zZ0 hb
 have d0 : w.cell? ⟨b2, 0, none⟩ = some (.int .i64 u) := by rw [cell_of_row w b2 _ _ _ _ hb2]; rfl
 have hO := h.drew
 unfold asVl asC at HS
 unfold ptr
 clear hb hb2 h hs p0 p1 p2 p3 hm0 hm1 t0 hc1 hc8
 generalize t.tmod c.st = R at *
 go_enter Tryz.func196, Tryz.ntmps196
 go_wp2_with fail
 go_region_held3 (fun w' => w'.cell? ⟨b, 0, none⟩ = some (.int .i64 c.th) /\ w'.cell? ⟨b, 1, none⟩ = some (.int .i64 c.st) /\ w'.cell? ⟨b, 2, none⟩ = some (.int .i64 c.ga) /\ w'.cell? ⟨b, 3, none⟩ = some (.int .i64 c.le) /\ w'.cell? ⟨b, 4, none⟩ = some (.int .i64 c.re) /\ w'.cell? ⟨b, 5, none⟩ = some (.int .i64 c.ti) /\ w'.cell? ⟨b, 6, none⟩ = some (.slice pp np cp) /\ w'.cell? ⟨b, 7, none⟩ = some (.slice pl nl cl) /\ w'.cell? ⟨b, 8, none⟩ = some (.int .i64 v) /\ w'.cell? ⟨b, 9, none⟩ = some (.int .i64 n) /\ w'.cell? ⟨b, 10, none⟩ = some (.int .i64 t) /\ w'.cell? ⟨b, 11, none⟩ = some (.pointer (some ⟨kc, 0, none⟩)) /\ w'.cell? ⟨b2, 0, none⟩ = some (.int .i64 u)) (go_keep) (first | (go_at_call 198; refine (HS _).out.mono ?_; rintro e w' ⟨rfl, hB'⟩; have hO := Own.below (by with_reducible assumption) hB'; have hB : Stp _ w' := hB'; have c0 := Stp.cell hB c0; have c1 := Stp.cell hB c1; have c2 := Stp.cell hB c2; have c3 := Stp.cell hB c3; have c4 := Stp.cell hB c4; have c5 := Stp.cell hB c5; have c6 := Stp.cell hB c6; have c7 := Stp.cell hB c7; have c8 := Stp.cell hB c8; have c9 := Stp.cell hB c9; have c10 := Stp.cell hB c10; have c11 := Stp.cell hB c11; have d0 := Stp.cell hB d0) | (go_at_call 197; refine (HP _).out.mono ?_; rintro e w' ⟨g, rfl, hK⟩; have hO2 := Own.lift hO hK; have hB : Stp _ w' := hK.toBelow; have c0 := Stp.cell hB c0; have c1 := Stp.cell hB c1; have c2 := Stp.cell hB c2; have c3 := Stp.cell hB c3; have c4 := Stp.cell hB c4; have c5 := Stp.cell hB c5; have c6 := Stp.cell hB c6; have c7 := Stp.cell hB c7; have c8 := Stp.cell hB c8; have c9 := Stp.cell hB c9; have c10 := Stp.cell hB c10; have c11 := Stp.cell hB c11; have d0 := Stp.cell hB d0))
 all_goals
  have hF := hid hO2
  clear hO hO2
  go_wp2_with fail
  go_ret
  exact ⟨_, rfl, hF.out⟩
theorem zUr (hs : Sm c) (t0 : 0 <= t) (t1 : t <= 1000) {u : Int} (u0 : 0 <= u) (u1 : u <= 12) (p : AP) (p0 : (p.b : Int) = lim c u + 2 + c.st) (p1 : p.S = c.st) (p2 : p.g = c.ga) (p3 : p.d = n)
 (hb : w.heap[b]? = some (asO c (.slice pp np cp) (.slice pl nl cl) v n t kc)) (hb2 : w.heap[b2]? = some (inO u)) (h : Own w0 F0 L w) :
 Calls Tryz.prog 205 #[ptr b, ptr b2] w fun e w' => ∃ g, e = .returned (.iface 224 (ptr g)) /\ Own w0 F0 (mchA g (stV p (s0A t)) :: L) w' := by
 have HS := fun w => hid (zSb (pp := pp) (np := np) (cp := cp) (pl := pl) (nl := nl) (cl := cl) c hs u u0 u1 w)
 have HP := fun w => hid (zRu (w0 := w) (F0 := fun _ => False) (L := []) (w := w) p t t0 t1 (Own.start w))
 rw [p0, p1, p2, p3] at HP
 obtain ⟨c0, c1, c2, c3, c4, c5, c6, c7, c8, c9, c10, c11⟩ := zZ0 hb
 have d0 : w.cell? ⟨b2, 0, none⟩ = some (.int .i64 u) := by rw [cell_of_row w b2 _ _ _ _ hb2]; rfl
 have hO := h.drew
 unfold ptr
 clear hb hb2 h hs p0 p1 p2 p3 t0 t1
 generalize lim c u + 2 + c.st = R at *
 generalize stV p (s0A t) = V at *
 go_enter Tryz.func205, Tryz.ntmps205
 go_wp2_with fail
 go_region_held3 (fun w' => w'.cell? ⟨b, 0, none⟩ = some (.int .i64 c.th) /\ w'.cell? ⟨b, 1, none⟩ = some (.int .i64 c.st) /\ w'.cell? ⟨b, 2, none⟩ = some (.int .i64 c.ga) /\ w'.cell? ⟨b, 3, none⟩ = some (.int .i64 c.le) /\ w'.cell? ⟨b, 4, none⟩ = some (.int .i64 c.re) /\ w'.cell? ⟨b, 5, none⟩ = some (.int .i64 c.ti) /\ w'.cell? ⟨b, 6, none⟩ = some (.slice pp np cp) /\ w'.cell? ⟨b, 7, none⟩ = some (.slice pl nl cl) /\ w'.cell? ⟨b, 8, none⟩ = some (.int .i64 v) /\ w'.cell? ⟨b, 9, none⟩ = some (.int .i64 n) /\ w'.cell? ⟨b, 10, none⟩ = some (.int .i64 t) /\ w'.cell? ⟨b, 11, none⟩ = some (.pointer (some ⟨kc, 0, none⟩)) /\ w'.cell? ⟨b2, 0, none⟩ = some (.int .i64 u)) (go_keep) (first | (go_at_call 139; refine (HS _).out.mono ?_; rintro e w' ⟨rfl, hB'⟩; have hO := Own.below (by with_reducible assumption) hB'; have hB : Stp _ w' := hB'; have c0 := Stp.cell hB c0; have c1 := Stp.cell hB c1; have c2 := Stp.cell hB c2; have c3 := Stp.cell hB c3; have c4 := Stp.cell hB c4; have c5 := Stp.cell hB c5; have c6 := Stp.cell hB c6; have c7 := Stp.cell hB c7; have c8 := Stp.cell hB c8; have c9 := Stp.cell hB c9; have c10 := Stp.cell hB c10; have c11 := Stp.cell hB c11; have d0 := Stp.cell hB d0) | (go_at_call 206; refine (HP _).out.mono ?_; rintro e w' ⟨g, rfl, hK⟩; have hO2 := Own.lift hO hK; have hB : Stp _ w' := hK.toBelow; have c0 := Stp.cell hB c0; have c1 := Stp.cell hB c1; have c2 := Stp.cell hB c2; have c3 := Stp.cell hB c3; have c4 := Stp.cell hB c4; have c5 := Stp.cell hB c5; have c6 := Stp.cell hB c6; have c7 := Stp.cell hB c7; have c8 := Stp.cell hB c8; have c9 := Stp.cell hB c9; have c10 := Stp.cell hB c10; have c11 := Stp.cell hB c11; have d0 := Stp.cell hB d0))
 all_goals
  have hF := hid hO2
  clear hO hO2
  go_wp2_with fail
  go_ret
  exact ⟨_, rfl, hF.out⟩
theorem kFill_any (hs : Sm c) (hn : np <= 12) (h16 : s.n <= 16) (hR : ∃ k : Nat, lim c np + 2 * (s.n : Int) = (k : Int) /\ k <= 1000) {x : Int} (hb : w.heap[b]? = some (asO c (.slice pp np cp) (.slice pl nl cl) v n t kc)) (hb2 : w.heap[b2]? = some (inO x)) (h : Own w0 F0 (clA kc q s :: L) w) :
 Calls Tryz.prog 202 #[ptr b, ptr b2] w fun e w' => ∃ g, e = .returned (.iface 221 (ptr g)) /\ Own w0 F0 (blk g (stO (lim c np + 2 * s.n + 1) x false) :: clA kc q s :: L) w' := by
 have HW := fun L w' (h : Own w0 F0 (clA kc q s :: L) w') => hid (mWord_any (c := c) (pp := pp) (np := np) (cp := cp) (pl := pl) (nl := nl) (cl := cl) (v := v) (n := n) (t := t) hs hn h16 h)
 obtain ⟨c0, c1, c2, c3, c4, c5, c6, c7, c8, c9, c10, c11⟩ := zZ0 hb
 have d0 : w.cell? ⟨b2, 0, none⟩ = some (.int .i64 x) := by rw [cell_of_row w b2 _ _ _ _ hb2]; rfl
 have hO := h.drew
 obtain ⟨k, hk, hk2⟩ := hR
 generalize lim c np + 2 * (s.n : Int) = R at *
 subst hk
 have e1 : IntKind.i64.wrap ((k : Int) + 1) = (k : Int) + 1 := IntWalk.i64_in _ (by omega)
 unfold asVl asC at HW
 unfold ptr
 clear hb hb2 h hs hn h16 hk2
 go_enter Tryz.func202, Tryz.ntmps202
 go_wp2_with fail
 go_region_held3 (fun w' => w'.cell? ⟨b, 0, none⟩ = some (.int .i64 c.th) /\ w'.cell? ⟨b, 1, none⟩ = some (.int .i64 c.st) /\ w'.cell? ⟨b, 2, none⟩ = some (.int .i64 c.ga) /\ w'.cell? ⟨b, 3, none⟩ = some (.int .i64 c.le) /\ w'.cell? ⟨b, 4, none⟩ = some (.int .i64 c.re) /\ w'.cell? ⟨b, 5, none⟩ = some (.int .i64 c.ti) /\ w'.cell? ⟨b, 6, none⟩ = some (.slice pp np cp) /\ w'.cell? ⟨b, 7, none⟩ = some (.slice pl nl cl) /\ w'.cell? ⟨b, 8, none⟩ = some (.int .i64 v) /\ w'.cell? ⟨b, 9, none⟩ = some (.int .i64 n) /\ w'.cell? ⟨b, 10, none⟩ = some (.int .i64 t) /\ w'.cell? ⟨b, 11, none⟩ = some (.pointer (some ⟨kc, 0, none⟩)) /\ w'.cell? ⟨b2, 0, none⟩ = some (.int .i64 x)) (go_keep) (first | (go_at_call 203; refine (HW _ _ (by with_reducible assumption)).out.mono ?_; rintro e w' ⟨rfl, hB'⟩; have hO := Own.below (by with_reducible assumption) hB'; have hB : Stp _ w' := hB'; have c0 := Stp.cell hB c0; have c1 := Stp.cell hB c1; have c2 := Stp.cell hB c2; have c3 := Stp.cell hB c3; have c4 := Stp.cell hB c4; have c5 := Stp.cell hB c5; have c6 := Stp.cell hB c6; have c7 := Stp.cell hB c7; have c8 := Stp.cell hB c8; have c9 := Stp.cell hB c9; have c10 := Stp.cell hB c10; have c11 := Stp.cell hB c11; have d0 := Stp.cell hB d0; have e0 := World.new_ne w' _ c0; have hlt := World.block_lt_of_cell? w' _ c0))
 all_goals
  have hF := hid (hO.new (stO (k + 1) x false))
  unfold stO at hF
  clear hO
  go_wp2_with fail
  go_ret
  exact ⟨_, rfl, hF.out⟩
theorem zTp (g : Nat) (w : World) :
 Calls Tryz.prog 323 #[ptr g] w fun e w' => e = .returned (ansV 0 0 false 0) /\ Below w.heap.size w w' := by
 have hB := hid (fun y z u v => ((Own.start w).alloc (.cells #[y, z, u, v] 50)).toBelow)
 unfold ansV ptr
 go_enter Tryz.func323, Tryz.ntmps323
 go_wp2_with fail
 (try simp only [Exit.inBlock, Exit.then])
 refine bodyPost_ret (by simp [results, Tryz.results323, go_sem, *]; try rfl) rfl ?_
 exact ⟨rfl, hB.out _ _ _ _⟩
theorem stStep_any {g a : Nat} {x : Int} (hi : a < ws.length) (hl : lg.length < 1000000) (h : Own w0 F0 (blk g (stO a x false) :: memA T m ws lg :: L) w) :
 Calls Tryz.prog 324 #[ptr g, ptr m] w fun e w' => e = .returned (.bool true) /\ Own w0 F0 (blk g (stO a x true) :: memA T m (ws.set a x) (lg ++ [⟨4, (a : Nat), x, 0, false⟩]) :: L) w' := by
 have c0 : w.cell? ⟨g, 0, none⟩ = some (.int .i64 a) := h.cell (i := 0) rfl
 have c1 : w.cell? ⟨g, 1, none⟩ = some (.int .i64 x) := h.cell (i := 1) rfl
 have c2 : w.cell? ⟨g, 2, none⟩ = some (.bool false) := h.cell (i := 2) rfl
 have HS := fun w (h : Own w0 F0 (memA T m ws lg :: blk g (stO a x false) :: L) w) => hid (Store_any a x hi hl h)
 have hO := h.swap.drew
 unfold ptr
 clear h hi hl
 go_enter Tryz.func324, Tryz.ntmps324
 go_wp2_with fail
 go_region_held3 (fun w' => w'.cell? ⟨g, 0, none⟩ = some (.int .i64 a) /\ w'.cell? ⟨g, 1, none⟩ = some (.int .i64 x) /\ w'.cell? ⟨g, 2, none⟩ = some (.bool false)) (go_keep) (first | (go_at_call 248; refine (HS _ (by with_reducible assumption)).out.mono ?_; rintro e w' ⟨rfl, hO2⟩; have hO3 := hO2.swap; have c0 := hO3.cell (i := 0) rfl; have c1 := hO3.cell (i := 1) rfl; have c2 := hO3.cell (i := 2) rfl))
 all_goals
  have cf : ∀ j, World.frozen? _ ⟨g, j, none⟩ = false := fun j => hO3.unfrozen
  have hF := hid (hO3.set 2 (.bool true))
  clear hO hO2 hO3
  go_wp2_with fail
  go_ret
  exact ⟨rfl, hF.out⟩
theorem zQh (hI : I64 s.put) (h16 : s.n <= 16) (h : Own w0 F0 (clA kc q s :: L) w) :
 Calls Tryz.prog 126 #[asVl c (.slice pp np cp) (.slice pl nl cl) v n t kc] w fun e w' => e = .returned (ansV 0 (hdV s.n (tnW s.put 2)) false 0) /\ Below w.heap.size w w' := by
 have HA := fun w' (h : Own w0 F0 (clA kc q s :: L) w') => hid (zUd h)
 have HT := fun w' (h : Own w0 F0 (clA kc q s :: L) w') => hid (zT0 (c := c) (pp := pp) (np := np) (cp := cp) (pl := pl) (nl := nl) (cl := cl) (v := v) (n := n) (t := t) 2 (Or.inr rfl) hI h)
 have hW : W64 (tnW s.put 2) := tnW_bd _ _
 have HH := fun w' => hid (sHandle_any (s.n : Int) (tnW s.put 2) (by unfold W64; omega) hW w')
 have H1 := ((Own.start w).new (asO c (.slice pp np cp) (.slice pl nl cl) v n t kc)).new (.cells #[.int .i64 0, .int .i64 0, .bool false, .int .i64 0] 50)
 rw [show (w.alloc (asO c (.slice pp np cp) (.slice pl nl cl) v n t kc)).heap.size = w.heap.size + 1 by simp] at H1
 obtain ⟨c0, c1, c2, c3, c4, c5, c6, c7, c8, c9, c10, c11⟩ := zZ0 H1.swap.block
 have HB := hid H1.toBelow
 have HO := hid (h.below HB.out)
 have HR := hid H1
 have fN := fldAN (erC s) (s.n : Int) false 0
 unfold asVl asC ansV at *
 unfold asO asC at HB HO HR c0 c1 c2 c3 c4 c5 c6 c7 c8 c9 c10 c11
 clear H1 h h16 hI hW
 generalize hdV (s.n : Int) (tnW s.put 2) = R at *
 generalize hdB (s.n : Int) = R3 at *
 generalize tnW s.put 2 = R2 at *
 generalize (s.n : Int) = sn at *
 generalize erC s = er at *
 go_enter Tryz.func126, Tryz.ntmps126
 go_wp2_with fail
 generalize World.alloc _ _ = w1 at *
 have k0 := cell_regrown c0
 have k1 := cell_regrown c1
 have k2 := cell_regrown c2
 have k3 := cell_regrown c3
 have k4 := cell_regrown c4
 have k5 := cell_regrown c5
 have k6 := cell_regrown c6
 have k7 := cell_regrown c7
 have k8 := cell_regrown c8
 have k9 := cell_regrown c9
 have k10 := cell_regrown c10
 have k11 := cell_regrown c11
 have C1 := fun (d : Nat) (os : Array Obj) => Calls.regrown_of (HA (Go.Sort.grow (redrawn w1 d) os) (HO.out.below (below_regrown w1 d os))).out
 have C2 := fun (d : Nat) (os : Array Obj) => Calls.regrown_of (HT (Go.Sort.grow (redrawn w1 d) os) (HO.out.below (below_regrown w1 d os))).out
 have C3 := fun (d : Nat) (os : Array Obj) => Calls.regrown_of (HH (Go.Sort.grow (redrawn w1 d) os)).out
 try dsimp only [List.append]
 refine wp_region_quiet_below (by kernel_rfl) (by kernel_rfl) ?_
 repeat (go_big_quiet_step ((first | (go_at_call 163; with_reducible exact C1 _ _) | (go_at_call 164; with_reducible exact C2 _ _) | (go_at_call 162; with_reducible exact C3 _ _))))
 refine wpQuiet_nil ?_
 intro _ hw'
 obtain ⟨⟨dq, osq⟩, hw''⟩ := hw'
 subst hw''
 have hR := HR.out.below (below_regrown w1 dq osq)
 clear k0 k1 k2 k3 k4 k5 k6 k7 k8 k9 k10 k11 C1 C2 C3 HB HT HA HH HO HR c0 c1 c2 c3 c4 c5 c6 c7 c8 c9 c10 c11
 generalize Go.Sort.grow (redrawn w1 dq) osq = wz at *
 have cf : ∀ j, wz.frozen? ⟨w.heap.size + 1, j, none⟩ = false := fun j => hR.unfrozen
 have e0 := hR.cell (i := 0) rfl
 have e1 := hR.cell (i := 1) rfl
 have e2 := hR.cell (i := 2) rfl
 have e3 := hR.cell (i := 3) rfl
 have HF := hid ((((hR.set 0 (.int .i64 0)).set 1 (.int .i64 R)).set 2 (.bool false)).set 3 (.int .i64 0)).toBelow
 clear hR
 go_wp2_with fail
 (try simp only [Exit.inBlock, Exit.then])
 refine bodyPost_ret (by simp [results, Tryz.results126, go_sem, *]; try rfl) rfl ?_
 exact ⟨rfl, HF.out⟩
end
end
end Go.Proofs.YtdglnpfnjinbkaaGreat
