/- Texts of elder layers, one behind the other: CallUse, CallDone, PoolRef3. -/
import Derived.Test.YtdglnpfnjinbkaaGreatC46
import Derived.StillTailTactics
namespace Go.Proofs.YtdglnpfnjinbkaaGreat
open Go.ChangeShapes Go.WideShapes Go.ChangeAt Go.RowKit Go.Shelf
open Lib (hid)
set_option linter.unusedVariables false
set_option linter.unusedSimpArgs false
set_option maxRecDepth 100000
set_option maxHeartbeats 4000000
section
variable {w0 w w' W : World} {F0 : Nat -> Prop} {L : List Asn} {c : Cf} {vp vl : Value} {pp pl : Option Addr} {cp cl : Nat}
def clV (x : Cl) : Value := .agg #[.int .i64 x.kd, .int .i64 x.nd, .int .i64 x.n]
structure Cl.Wf (x : Cl) : Prop where
 kd : I64 x.kd
 nd : I64 x.nd
 n : I64 x.n
theorem zXz (hr : c.Rt) (hp : zZc w .i64 vp c.ps) (hl : zZc w .i64 vl c.ls) (x : Cl) (hx : x.Wf) :
 Calls Tryz.prog 15 #[cfV c vp vl, clV x] w fun e w' => e = .returned (.int .i64 (chk c x)) /\ Below w.heap.size w w' := by
 obtain ⟨kd, nd, n⟩ := x
 have hn : W64 n := by have := hx.n; unfold I64 at this; unfold W64; exact this
 by_cases k1 : kd = 1
 ·subst k1
  refine (cCheck_1 hr hp hl nd n).mono ?_
  rintro e w' ⟨rfl, hB⟩
  refine ⟨?_, hB⟩
  unfold chk orE
  (repeat' split) <;> first | rfl | (exfalso; simp_all; done) | (exfalso; simp_all; omega) | (exfalso; omega)
 by_cases k2 : kd = 2
 ·subst k2
  refine (cCheck_2 hr hp hl nd n hn).mono ?_
  rintro e w' ⟨rfl, hB⟩
  refine ⟨?_, hB⟩
  unfold chk orE
  (repeat' split) <;> first | rfl | (exfalso; simp_all; done) | (exfalso; simp_all; omega) | (exfalso; omega)
 by_cases k3 : kd = 3
 ·subst k3
  refine (cCheck_3 hr hp hl nd n).mono ?_
  rintro e w' ⟨rfl, hB⟩
  refine ⟨?_, hB⟩
  unfold chk orE
  (repeat' split) <;> first | rfl | (exfalso; simp_all; done) | (exfalso; simp_all; omega) | (exfalso; omega)
 by_cases k4 : kd = 4
 ·subst k4
  refine (cCheck_4 hr hp hl nd n).mono ?_
  rintro e w' ⟨rfl, hB⟩
  refine ⟨?_, hB⟩
  unfold chk orE
  (repeat' split) <;> first | rfl | (exfalso; simp_all; done) | (exfalso; simp_all; omega) | (exfalso; omega)
 by_cases k5 : kd = 5
 ·subst k5
  refine (cCheck_5 hr hp hl nd n).mono ?_
  rintro e w' ⟨rfl, hB⟩
  refine ⟨?_, hB⟩
  unfold chk orE
  (repeat' split) <;> first | rfl | (exfalso; simp_all; done) | (exfalso; simp_all; omega) | (exfalso; omega)
 by_cases k6 : kd = 6
 ·subst k6
  refine (cCheck_6 hr hp hl nd n).mono ?_
  rintro e w' ⟨rfl, hB⟩
  refine ⟨?_, hB⟩
  unfold chk orE
  (repeat' split) <;> first | rfl | (exfalso; simp_all; done) | (exfalso; simp_all; omega) | (exfalso; omega)
 refine (cCheck_x hr hp hl kd nd n ⟨k1, k2, k3, k4, k5, k6⟩).mono ?_
 rintro e w' ⟨rfl, hB⟩
 refine ⟨?_, hB⟩
 unfold chk
 simp only
 rw [if_neg k1, if_neg k2, if_neg (by omega), if_neg (by omega)]
theorem zXy {ty : TypeId} {A : Nat -> Asn} (hr : c.Rt) (hp : zZc W .i64 (.slice pp c.ps.length cp) c.ps) (hl : zZc W .i64 (.slice pl c.ls.length cl) c.ls) (t : Nat) (kd nd n : Int) (hk : chk c ⟨kd, nd, n⟩ = 0) (hx : (⟨kd, nd, n⟩ : Cl).Wf) (i : Nat) (fa fb fm : FuncId)
 (hf : Instr.findNow (.int .i64) (.int .i64 kd) kdE 0 = some (some (i, .agg #[.func (.func fa) #[] #[], .func (.func fb) #[] #[], .func (.func fm) #[] #[]]))) (EM : ∀ args w, (callFunc fm args).run Tryz.prog w = .ok (.enter fm args) w)
 (HM : ∀ w L, Own W NoF L w -> Calls Tryz.prog fm #[cfV c (.slice pp c.ps.length cp) (.slice pl c.ls.length cl), .int .i64 t, .agg #[.int .i64 kd, .int .i64 nd, .int .i64 n]] w fun e w' => ∃ g, e = .returned (.iface ty (.pointer (some ⟨g, 0, none⟩))) /\ Own W NoF (A g :: L) w') (h : Own W NoF L w) :
 Calls Tryz.prog 16 #[cfV c (.slice pp c.ps.length cp) (.slice pl c.ls.length cl), .int .i64 t, .agg #[.int .i64 kd, .int .i64 nd, .int .i64 n]] w fun e w' => ∃ g, e = .returned (.iface ty (.pointer (some ⟨g, 0, none⟩))) /\ Own W NoF (A g :: L) w' := by
 have h1 := (h.new (cfO c (.slice pp c.ps.length cp) (.slice pl c.ls.length cl))).new (.cells #[.int .i64 kd, .int .i64 nd, .int .i64 n] 40)
 simp only [World.size_alloc] at h1
 obtain ⟨d0, d1, d2, d3, d4, d5, d6, d7⟩ := zZa h1.swap
 have q0 := h1.cell (i := 0) rfl
 have q1 := h1.cell (i := 1) rfl
 have q2 := h1.cell (i := 2) rfl
 have HCk := hid (zXz hr (hp.stp h1.toBelow) (hl.stp h1.toBelow) ⟨kd, nd, n⟩ hx)
 rw [hk] at HCk
 unfold clV at HCk
 have Hf := hid hf
 have HM := fun w L (h : Own W NoF L w) => hid (HM w L h)
 have ef : ∀ w, (Instr.field 76 (.agg #[.func (.func fa) #[] #[], .func (.func fb) #[] #[], .func (.func fm) #[] #[]]) 2).run Tryz.prog w = .ok (.func (.func fm) #[] #[]) w := fun w => by kernel_rfl
 have H1 := hid h1
 clear h h1 hr hp hl hk hx hf
 go_enter Tryz.func16, Tryz.ntmps16
 go_wp2_with fail
 refine HCk.out.mono ?_
 rintro e w2 ⟨rfl, hB⟩
 have h2 := (H1.out.below hB).drew
 clear hB H1 HCk d0 d1 d2 d3 d4 d5 d6 d7 q0 q1 q2
 obtain ⟨d0, d1, d2, d3, d4, d5, d6, d7⟩ := zZa h2.swap
 have q0 := h2.cell (i := 0) rfl
 have q1 := h2.cell (i := 1) rfl
 have q2 := h2.cell (i := 2) rfl
 go_wp2_with fail
 go_region_held3 (fun w' => w'.cell? ⟨w.heap.size, 0, none⟩ = some (.int .i64 c.th) /\ w'.cell? ⟨w.heap.size, 1, none⟩ = some (.int .i64 c.st) /\ w'.cell? ⟨w.heap.size, 2, none⟩ = some (.int .i64 c.ga) /\ w'.cell? ⟨w.heap.size, 3, none⟩ = some (.int .i64 c.le) /\ w'.cell? ⟨w.heap.size, 4, none⟩ = some (.int .i64 c.re) /\ w'.cell? ⟨w.heap.size, 5, none⟩ = some (.int .i64 c.ti) /\ w'.cell? ⟨w.heap.size, 6, none⟩ = some (.slice pp c.ps.length cp) /\ w'.cell? ⟨w.heap.size, 7, none⟩ = some (.slice pl c.ls.length cl) /\ w'.cell? ⟨w.heap.size + 1, 0, none⟩ = some (.int .i64 kd) /\ w'.cell? ⟨w.heap.size + 1, 1, none⟩ = some (.int .i64 nd) /\ w'.cell? ⟨w.heap.size + 1, 2, none⟩ = some (.int .i64 n)) (go_keep) (first
  | (go_at_call 41; refine (zWr h2).mono ?_; rintro e w6 ⟨b, rfl, hO2⟩; obtain ⟨d0, d1, d2, d3, d4, d5, d6, d7⟩ := zZa hO2.p2; have q0 := hO2.swap.cell (i := 0) rfl; have q1 := hO2.swap.cell (i := 1) rfl; have q2 := hO2.swap.cell (i := 2) rfl; have u1 := zXh false zY1 Tryz.underlying3 hO2.block Hf.out; simp only [Bool.false_eq_true, if_false] at u1)
  | (refine (HM _ _ hO2).out.mono ?_; rintro e w7 ⟨g, rfl, hO3⟩; obtain ⟨d0, d1, d2, d3, d4, d5, d6, d7⟩ := zZa hO3.p3; have q0 := hO3.p2.cell (i := 0) rfl; have q1 := hO3.p2.cell (i := 1) rfl; have q2 := hO3.p2.cell (i := 2) rfl))
 have HO := hid (hO3.under fun _ _ h => h.drop.drop.drop)
 clear h2 hO2 hO3 HM Hf ef u1 d0 d1 d2 d3 d4 d5 d6 d7 q0 q1 q2
 go_wp2_with fail
 go_ret
 exact ⟨g, rfl, HO.out⟩
theorem admits_any (hr : c.Rt) (hp : zZc W .i64 (.slice pp c.ps.length cp) c.ps) (hl : zZc W .i64 (.slice pl c.ls.length cl) c.ls) (t : Nat) (ht : t <= 1000) (u : Nat) (hu : u < c.ps.length) (n : Int) (n0 : 1 <= n) (n1 : n <= 1048576) (h : Own W NoF L w) :
 Calls Tryz.prog 65 #[cfV c (.slice pp c.ps.length cp) (.slice pl c.ls.length cl), .int .i64 t, .agg #[.int .i64 1, .int .i64 u, .int .i64 n]] w fun e w' => ∃ g, e = .returned (.iface 134 (.pointer (some ⟨g, 0, none⟩))) /\ Own W NoF (adA (.slice pp c.ps.length cp) (.slice pl c.ls.length cl) g ⟨c, u, n, t⟩ (s0D ⟨c, u, n, t⟩) :: L) w' := by
 have h1 := (h.new (cfO c (.slice pp c.ps.length cp) (.slice pl c.ls.length cl))).new (.cells #[.int .i64 1, .int .i64 u, .int .i64 n] 40)
 simp only [World.size_alloc] at h1
 obtain ⟨d0, d1, d2, d3, d4, d5, d6, d7⟩ := zZa h1.swap
 have q0 := h1.cell (i := 0) rfl
 have q1 := h1.cell (i := 1) rfl
 have q2 := h1.cell (i := 2) rfl
 have hn1 := hr.n1
 have HN : Hid (Calls Tryz.prog 91 #[cfV c (.slice pp c.ps.length cp) (.slice pl c.ls.length cl), .int .i64 u, .int .i64 n, .int .i64 t] _ fun e w' => ∃ g, e = .returned (.pointer (some ⟨g, 0, none⟩)) /\ Own W NoF (adA (.slice pp c.ps.length cp) (.slice pl c.ls.length cl) g ⟨c, u, n, t⟩ (s0D ⟨c, u, n, t⟩) :: _ :: _ :: L) w') := hid (adNew_any ⟨c, u, n, t⟩ (⟨hr, hu, n0, n1, ht⟩ : (DP.mk c u n t).Ok) hp hl h1)
 clear h h1 hr hp hl hn1 hu
 go_enter Tryz.func65, Tryz.ntmps65
 go_wp2_with fail
 refine HN.out.mono ?_
 rintro e w3 ⟨g, rfl, hO⟩
 have HO := hid (hO.under fun _ _ h => h.drop.drop)
 clear HN hO d0 d1 d2 d3 d4 d5 d6 d7 q0 q1 q2
 go_wp2_with fail
 go_ret
 exact ⟨g, rfl, HO.out⟩
theorem cNew_1 (hr : c.Rt) (hp : zZc W .i64 (.slice pp c.ps.length cp) c.ps) (hl : zZc W .i64 (.slice pl c.ls.length cl) c.ls) (t : Nat) (ht : t <= 1000) (u : Nat) (hu : u < c.ps.length) (n : Int) (n0 : 1 <= n) (n1 : n <= 1048576) (h : Own W NoF L w) (hk : chk c ⟨1, u, n⟩ = 0) (hx : (⟨1, u, n⟩ : Cl).Wf) :
 Calls Tryz.prog 16 #[cfV c (.slice pp c.ps.length cp) (.slice pl c.ls.length cl), .int .i64 t, .agg #[.int .i64 1, .int .i64 u, .int .i64 n]] w fun e w' => ∃ g, e = .returned (.iface 134 (.pointer (some ⟨g, 0, none⟩))) /\ Own W NoF (adA (.slice pp c.ps.length cp) (.slice pl c.ls.length cl) g ⟨c, u, n, t⟩ (s0D ⟨c, u, n, t⟩) :: L) w' :=
 zXy hr hp hl t 1 u n hk hx 0 63 64 65 rfl (enters_of Tryz.func65 (by kernel_rfl) rfl) (fun w L h => admits_any hr hp hl t ht u hu n n0 n1 h) h
theorem releases_any (hr : c.Rt) (hp : zZc W .i64 (.slice pp c.ps.length cp) c.ps) (hl : zZc W .i64 (.slice pl c.ls.length cl) c.ls) (t : Nat) (ht : t <= 1000) (u : Int) (n : Int) (hw : W64 n) (hb : nmB n c.ti = true) (h : Own W NoF L w) :
 Calls Tryz.prog 68 #[cfV c (.slice pp c.ps.length cp) (.slice pl c.ls.length cl), .int .i64 t, .agg #[.int .i64 2, .int .i64 u, .int .i64 n]] w fun e w' => ∃ g, e = .returned (.iface 136 (.pointer (some ⟨g, 0, none⟩))) /\ Own W NoF (relA (.slice pp c.ps.length cp) (.slice pl c.ls.length cl) g (relP c n t) s0R :: L) w' := by
 have h1 := (h.new (cfO c (.slice pp c.ps.length cp) (.slice pl c.ls.length cl))).new (.cells #[.int .i64 2, .int .i64 u, .int .i64 n] 40)
 simp only [World.size_alloc] at h1
 obtain ⟨d0, d1, d2, d3, d4, d5, d6, d7⟩ := zZa h1.swap
 have q0 := h1.cell (i := 0) rfl
 have q1 := h1.cell (i := 1) rfl
 have q2 := h1.cell (i := 2) rfl
 have hn1 := hr.n1
 have HN : Hid (Calls Tryz.prog 93 #[cfV c (.slice pp c.ps.length cp) (.slice pl c.ls.length cl), .int .i64 n, .int .i64 t] _ fun e w' => ∃ g, e = .returned (.pointer (some ⟨g, 0, none⟩)) /\ Own W NoF (relA (.slice pp c.ps.length cp) (.slice pl c.ls.length cl) g (relP c n t) s0R :: _ :: _ :: L) w') := hid (relNew_any (vp := .slice pp c.ps.length cp) (vl := .slice pl c.ls.length cl) (th := t) (by have := zYi hr; omega) (by have := zYi hr; omega) hw hb (nm_hd n c.ti (by have := zYi hr; omega) hb).2.2.1 h1)
 clear h h1 hr hp hl hn1
 go_enter Tryz.func68, Tryz.ntmps68
 go_wp2_with fail
 refine HN.out.mono ?_
 rintro e w3 ⟨g, rfl, hO⟩
 have HO := hid (hO.under fun _ _ h => h.drop.drop)
 clear HN hO d0 d1 d2 d3 d4 d5 d6 d7 q0 q1 q2
 go_wp2_with fail
 go_ret
 exact ⟨g, rfl, HO.out⟩
theorem cNew_2 (hr : c.Rt) (hp : zZc W .i64 (.slice pp c.ps.length cp) c.ps) (hl : zZc W .i64 (.slice pl c.ls.length cl) c.ls) (t : Nat) (ht : t <= 1000) (u : Int) (n : Int) (hw : W64 n) (hb : nmB n c.ti = true) (h : Own W NoF L w) (hk : chk c ⟨2, u, n⟩ = 0) (hx : (⟨2, u, n⟩ : Cl).Wf) :
 Calls Tryz.prog 16 #[cfV c (.slice pp c.ps.length cp) (.slice pl c.ls.length cl), .int .i64 t, .agg #[.int .i64 2, .int .i64 u, .int .i64 n]] w fun e w' => ∃ g, e = .returned (.iface 136 (.pointer (some ⟨g, 0, none⟩))) /\ Own W NoF (relA (.slice pp c.ps.length cp) (.slice pl c.ls.length cl) g (relP c n t) s0R :: L) w' :=
 zXy hr hp hl t 2 u n hk hx 1 66 67 68 rfl (enters_of Tryz.func68 (by kernel_rfl) rfl) (fun w L h => releases_any hr hp hl t ht u n hw hb h) h
theorem raises_any (hr : c.Rt) (hp : zZc W .i64 (.slice pp c.ps.length cp) c.ps) (hl : zZc W .i64 (.slice pl c.ls.length cl) c.ls) (t : Nat) (ht : t <= 1000) (u : Nat) (hu : u < c.ps.length) (n : Int) (h : Own W NoF L w) :
 Calls Tryz.prog 70 #[cfV c (.slice pp c.ps.length cp) (.slice pl c.ls.length cl), .int .i64 t, .agg #[.int .i64 3, .int .i64 u, .int .i64 n]] w fun e w' => ∃ g, e = .returned (.iface 138 (.pointer (some ⟨g, 0, none⟩))) /\ Own W NoF (shA g u (shKP c true u n) (s0Q 2) :: L) w' := by
 have h1 := (h.new (cfO c (.slice pp c.ps.length cp) (.slice pl c.ls.length cl))).new (.cells #[.int .i64 3, .int .i64 u, .int .i64 n] 40)
 simp only [World.size_alloc] at h1
 obtain ⟨d0, d1, d2, d3, d4, d5, d6, d7⟩ := zZa h1.swap
 have q0 := h1.cell (i := 0) rfl
 have q1 := h1.cell (i := 1) rfl
 have q2 := h1.cell (i := 2) rfl
 have hn1 := hr.n1
 have HN : Hid (Calls Tryz.prog 95 #[cfV c (.slice pp c.ps.length cp) (.slice pl c.ls.length cl), .int .i64 u, .int .i64 n] _ fun e w' => ∃ g, e = .returned (.pointer (some ⟨g, 0, none⟩)) /\ Own W NoF (shA g u (shKP c true u n) (s0Q 2) :: _ :: _ :: L) w') := hid (by rw [shKP_P c true u n]; exact shRaise_any c hr.sm u n (by omega) (by omega) (limN c u) (avN c u) (zZw hr.sm u) (by rw [zZw hr.sm]; rfl) h1)
 clear h h1 hr hp hl hn1 hu
 go_enter Tryz.func70, Tryz.ntmps70
 go_wp2_with fail
 refine HN.out.mono ?_
 rintro e w3 ⟨g, rfl, hO⟩
 have HO := hid (hO.under fun _ _ h => h.drop.drop)
 clear HN hO d0 d1 d2 d3 d4 d5 d6 d7 q0 q1 q2
 go_wp2_with fail
 go_ret
 exact ⟨g, rfl, HO.out⟩
theorem cNew_3 (hr : c.Rt) (hp : zZc W .i64 (.slice pp c.ps.length cp) c.ps) (hl : zZc W .i64 (.slice pl c.ls.length cl) c.ls) (t : Nat) (ht : t <= 1000) (u : Nat) (hu : u < c.ps.length) (n : Int) (h : Own W NoF L w) (hk : chk c ⟨3, u, n⟩ = 0) (hx : (⟨3, u, n⟩ : Cl).Wf) :
 Calls Tryz.prog 16 #[cfV c (.slice pp c.ps.length cp) (.slice pl c.ls.length cl), .int .i64 t, .agg #[.int .i64 3, .int .i64 u, .int .i64 n]] w fun e w' => ∃ g, e = .returned (.iface 138 (.pointer (some ⟨g, 0, none⟩))) /\ Own W NoF (shA g u (shKP c true u n) (s0Q 2) :: L) w' :=
 zXy hr hp hl t 3 u n hk hx 2 69 64 70 rfl (enters_of Tryz.func70 (by kernel_rfl) rfl) (fun w L h => raises_any hr hp hl t ht u hu n h) h
theorem lowers_any (hr : c.Rt) (hp : zZc W .i64 (.slice pp c.ps.length cp) c.ps) (hl : zZc W .i64 (.slice pl c.ls.length cl) c.ls) (t : Nat) (ht : t <= 1000) (u : Nat) (hu : u < c.ps.length) (n : Int) (h : Own W NoF L w) :
 Calls Tryz.prog 71 #[cfV c (.slice pp c.ps.length cp) (.slice pl c.ls.length cl), .int .i64 t, .agg #[.int .i64 4, .int .i64 u, .int .i64 n]] w fun e w' => ∃ g, e = .returned (.iface 138 (.pointer (some ⟨g, 0, none⟩))) /\ Own W NoF (shA g u (shKP c false u n) (s0Q 3) :: L) w' := by
 have h1 := (h.new (cfO c (.slice pp c.ps.length cp) (.slice pl c.ls.length cl))).new (.cells #[.int .i64 4, .int .i64 u, .int .i64 n] 40)
 simp only [World.size_alloc] at h1
 obtain ⟨d0, d1, d2, d3, d4, d5, d6, d7⟩ := zZa h1.swap
 have q0 := h1.cell (i := 0) rfl
 have q1 := h1.cell (i := 1) rfl
 have q2 := h1.cell (i := 2) rfl
 have hn1 := hr.n1
 have HN : Hid (Calls Tryz.prog 96 #[cfV c (.slice pp c.ps.length cp) (.slice pl c.ls.length cl), .int .i64 u, .int .i64 n] _ fun e w' => ∃ g, e = .returned (.pointer (some ⟨g, 0, none⟩)) /\ Own W NoF (shA g u (shKP c false u n) (s0Q 3) :: _ :: _ :: L) w') := hid (by rw [shKP_P c false u n]; exact shLower_any c hr.sm u n (by omega) (by omega) (limN c u) (avN c u) (zZw hr.sm u) (by rw [zZw hr.sm]; rfl) h1)
 clear h h1 hr hp hl hn1 hu
 go_enter Tryz.func71, Tryz.ntmps71
 go_wp2_with fail
 refine HN.out.mono ?_
 rintro e w3 ⟨g, rfl, hO⟩
 have HO := hid (hO.under fun _ _ h => h.drop.drop)
 clear HN hO d0 d1 d2 d3 d4 d5 d6 d7 q0 q1 q2
 go_wp2_with fail
 go_ret
 exact ⟨g, rfl, HO.out⟩
theorem cNew_4 (hr : c.Rt) (hp : zZc W .i64 (.slice pp c.ps.length cp) c.ps) (hl : zZc W .i64 (.slice pl c.ls.length cl) c.ls) (t : Nat) (ht : t <= 1000) (u : Nat) (hu : u < c.ps.length) (n : Int) (h : Own W NoF L w) (hk : chk c ⟨4, u, n⟩ = 0) (hx : (⟨4, u, n⟩ : Cl).Wf) :
 Calls Tryz.prog 16 #[cfV c (.slice pp c.ps.length cp) (.slice pl c.ls.length cl), .int .i64 t, .agg #[.int .i64 4, .int .i64 u, .int .i64 n]] w fun e w' => ∃ g, e = .returned (.iface 138 (.pointer (some ⟨g, 0, none⟩))) /\ Own W NoF (shA g u (shKP c false u n) (s0Q 3) :: L) w' :=
 zXy hr hp hl t 4 u n hk hx 3 69 64 71 rfl (enters_of Tryz.func71 (by kernel_rfl) rfl) (fun w L h => lowers_any hr hp hl t ht u hu n h) h
theorem counts_any (hr : c.Rt) (hp : zZc W .i64 (.slice pp c.ps.length cp) c.ps) (hl : zZc W .i64 (.slice pl c.ls.length cl) c.ls) (t : Nat) (ht : t <= 1000) (u : Nat) (hu : u < c.ps.length) (n : Int) (h : Own W NoF L w) :
 Calls Tryz.prog 72 #[cfV c (.slice pp c.ps.length cp) (.slice pl c.ls.length cl), .int .i64 t, .agg #[.int .i64 5, .int .i64 u, .int .i64 n]] w fun e w' => ∃ g, e = .returned (.iface 140 (.pointer (some ⟨g, 0, none⟩))) /\ Own W NoF (cntA g (ctN c u) c.st.toNat (s0S c.re.toNat) :: L) w' := by
 have h1 := (h.new (cfO c (.slice pp c.ps.length cp) (.slice pl c.ls.length cl))).new (.cells #[.int .i64 5, .int .i64 u, .int .i64 n] 40)
 simp only [World.size_alloc] at h1
 obtain ⟨d0, d1, d2, d3, d4, d5, d6, d7⟩ := zZa h1.swap
 have q0 := h1.cell (i := 0) rfl
 have q1 := h1.cell (i := 1) rfl
 have q2 := h1.cell (i := 2) rfl
 have hn1 := hr.n1
 have HN : Hid (Calls Tryz.prog 97 #[cfV c (.slice pp c.ps.length cp) (.slice pl c.ls.length cl), .int .i64 u] _ fun e w' => ∃ g, e = .returned (.pointer (some ⟨g, 0, none⟩)) /\ Own W NoF (cntA g (ctN c u) c.st.toNat (s0S c.re.toNat) :: _ :: _ :: L) w') := hid (uCount_any hr u hu h1)
 clear h h1 hr hp hl hn1 hu
 go_enter Tryz.func72, Tryz.ntmps72
 go_wp2_with fail
 refine HN.out.mono ?_
 rintro e w3 ⟨g, rfl, hO⟩
 have HO := hid (hO.under fun _ _ h => h.drop.drop)
 clear HN hO d0 d1 d2 d3 d4 d5 d6 d7 q0 q1 q2
 go_wp2_with fail
 go_ret
 exact ⟨g, rfl, HO.out⟩
theorem cNew_5 (hr : c.Rt) (hp : zZc W .i64 (.slice pp c.ps.length cp) c.ps) (hl : zZc W .i64 (.slice pl c.ls.length cl) c.ls) (t : Nat) (ht : t <= 1000) (u : Nat) (hu : u < c.ps.length) (n : Int) (h : Own W NoF L w) (hk : chk c ⟨5, u, n⟩ = 0) (hx : (⟨5, u, n⟩ : Cl).Wf) :
 Calls Tryz.prog 16 #[cfV c (.slice pp c.ps.length cp) (.slice pl c.ls.length cl), .int .i64 t, .agg #[.int .i64 5, .int .i64 u, .int .i64 n]] w fun e w' => ∃ g, e = .returned (.iface 140 (.pointer (some ⟨g, 0, none⟩))) /\ Own W NoF (cntA g (ctN c u) c.st.toNat (s0S c.re.toNat) :: L) w' :=
 zXy hr hp hl t 5 u n hk hx 4 69 66 72 rfl (enters_of Tryz.func72 (by kernel_rfl) rfl) (fun w L h => counts_any hr hp hl t ht u hu n h) h
theorem peeks_any (hr : c.Rt) (hp : zZc W .i64 (.slice pp c.ps.length cp) c.ps) (hl : zZc W .i64 (.slice pl c.ls.length cl) c.ls) (t : Nat) (ht : t <= 1000) (u : Nat) (hu : u < c.ps.length) (n : Int) (h : Own W NoF L w) :
 Calls Tryz.prog 73 #[cfV c (.slice pp c.ps.length cp) (.slice pl c.ls.length cl), .int .i64 t, .agg #[.int .i64 6, .int .i64 u, .int .i64 n]] w fun e w' => ∃ g, e = .returned (.iface 140 (.pointer (some ⟨g, 0, none⟩))) /\ Own W NoF (peekA g (ctN c u) ⟨false, 0⟩ :: L) w' := by
 have h1 := (h.new (cfO c (.slice pp c.ps.length cp) (.slice pl c.ls.length cl))).new (.cells #[.int .i64 6, .int .i64 u, .int .i64 n] 40)
 simp only [World.size_alloc] at h1
 obtain ⟨d0, d1, d2, d3, d4, d5, d6, d7⟩ := zZa h1.swap
 have q0 := h1.cell (i := 0) rfl
 have q1 := h1.cell (i := 1) rfl
 have q2 := h1.cell (i := 2) rfl
 have hn1 := hr.n1
 have HN : Hid (Calls Tryz.prog 98 #[cfV c (.slice pp c.ps.length cp) (.slice pl c.ls.length cl), .int .i64 u] _ fun e w' => ∃ g, e = .returned (.pointer (some ⟨g, 0, none⟩)) /\ Own W NoF (peekA g (ctN c u) ⟨false, 0⟩ :: _ :: _ :: L) w') := hid (uPeek_any hr u hu h1)
 clear h h1 hr hp hl hn1 hu
 go_enter Tryz.func73, Tryz.ntmps73
 go_wp2_with fail
 refine HN.out.mono ?_
 rintro e w3 ⟨g, rfl, hO⟩
 have HO := hid (hO.under fun _ _ h => h.drop.drop)
 clear HN hO d0 d1 d2 d3 d4 d5 d6 d7 q0 q1 q2
 go_wp2_with fail
 go_ret
 exact ⟨g, rfl, HO.out⟩
theorem cNew_6 (hr : c.Rt) (hp : zZc W .i64 (.slice pp c.ps.length cp) c.ps) (hl : zZc W .i64 (.slice pl c.ls.length cl) c.ls) (t : Nat) (ht : t <= 1000) (u : Nat) (hu : u < c.ps.length) (n : Int) (h : Own W NoF L w) (hk : chk c ⟨6, u, n⟩ = 0) (hx : (⟨6, u, n⟩ : Cl).Wf) :
 Calls Tryz.prog 16 #[cfV c (.slice pp c.ps.length cp) (.slice pl c.ls.length cl), .int .i64 t, .agg #[.int .i64 6, .int .i64 u, .int .i64 n]] w fun e w' => ∃ g, e = .returned (.iface 140 (.pointer (some ⟨g, 0, none⟩))) /\ Own W NoF (peekA g (ctN c u) ⟨false, 0⟩ :: L) w' :=
 zXy hr hp hl t 6 u n hk hx 5 69 66 73 rfl (enters_of Tryz.func73 (by kernel_rfl) rfl) (fun w L h => peeks_any hr hp hl t ht u hu n h) h
theorem cNew_any (hr : c.Rt) (hp : zZc W .i64 vp c.ps) (hl : zZc W .i64 vl c.ls) (x : Cl) (hx : x.Wf) (hc : chk c x = 0) (t : Nat) (ht : t <= 1000) (h : Own W NoF L w) :
 Calls Tryz.prog 16 #[cfV c vp vl, .int .i64 t, clV x] w fun e w' => ∃ g, e = .returned (.iface (xT (newX c t x)) (.pointer (some ⟨g, 0, none⟩))) /\ Own W NoF (xA c vp vl g (newX c t x) :: L) w' := by
 obtain ⟨pp, cp, rfl⟩ := hp.slice
 obtain ⟨pl, cl, rfl⟩ := hl.slice
 obtain ⟨kd, nd, n⟩ := x
 have hn : W64 n := by have := hx.n; unfold I64 at this; unfold W64; exact this
 rcases chk_ok hc with ⟨k1, k2, k3, k4⟩ | ⟨k1, k2⟩ | ⟨k1, k2, k3, k4⟩ | ⟨k1, k2⟩
 ·have hl2 := zVp.1 k2
  obtain ⟨l0, l1⟩ := hl2.1
  simp only at k1 k3 k4 l0 l1
  obtain ⟨u, rfl⟩ : ∃ u : Nat, nd = u := ⟨nd.toNat, by omega⟩
  subst k1
  exact cNew_1 hr hp hl t ht u (by omega) n k3 k4 h hc hx
 ·simp only at k1 k2
  subst k1
  exact cNew_2 hr hp hl t ht nd n hn k2 h hc hx
 ·simp only at k1 k2
  obtain ⟨u, rfl⟩ : ∃ u : Nat, nd = u := ⟨nd.toNat, by omega⟩
  rcases k1 with k1 | k1 <;> subst k1
  ·exact cNew_3 hr hp hl t ht u (by omega) n h hc hx
  ·exact cNew_4 hr hp hl t ht u (by omega) n h hc hx
 ·simp only at k1 k2
  obtain ⟨u, rfl⟩ : ∃ u : Nat, nd = u := ⟨nd.toNat, by omega⟩
  rcases k1 with k1 | k1 <;> subst k1
  ·exact cNew_5 hr hp hl t ht u (by omega) n h hc hx
  ·exact cNew_6 hr hp hl t ht u (by omega) n h hc hx
end
section
variable {w0 w w' W : World} {F0 : Nat -> Prop} {L : List Asn} {c : Cf} {vp vl : Value} {ws : List Int} {lg : List Acc} {m : Nat}
theorem runX_pk {c : Cf} {u : Nat} : ∀ (f : Nat) (s : KS) (ws : List Int) (lg : List Acc) (u' : Nat) (s' : KS), (s.fin = false -> s.n = 0) -> (runX c f (.pk u s) ws lg).1 = .pk u' s' -> s'.fin = false -> s'.n = 0
 | 0, s, ws, lg, u', s', h, e, hf => by simp only [runX] at e; injection e with e1 e2; subst e2; exact h hf
 | f + 1, s, ws, lg, u', s', h, e, hf => by
   have e1 : stepX c (.pk u s) ws lg = (.pk u (stepK (ctN c u) s ws lg).1, (stepK (ctN c u) s ws lg).2.1, (stepK (ctN c u) s ws lg).2.2.1, (stepK (ctN c u) s ws lg).2.2.2) := rfl
   have e2 : (stepK (ctN c u) s ws lg).1.fin = true := by
    unfold stepK; split
    ·assumption
    ·rfl
   rw [runX, e1] at e
   by_cases hq : (stepK (ctN c u) s ws lg).2.2.2 = true
   ·simp only [hq, if_true] at e
    injection e with e3 e4
    rw [<- e4, e2] at hf; cases hf
   ·simp only [hq] at e
    exact runX_pk f _ _ _ u' s' (fun q => by rw [e2] at q; cases q) e hf
theorem runX_no {c : Cf} : ∀ (f : Nat) (x : XM) (ws : List Int) (lg : List Acc), x ≠ .no -> (runX c f x ws lg).1 ≠ .no
 | 0, x, ws, lg, h => h
 | f + 1, x, ws, lg, h => by
   have h1 : (stepX c x ws lg).1 ≠ .no := by cases x <;> first | exact absurd rfl h | (simp only [stepX]; exact fun q => by cases q)
   rw [runX]
   split
   ·exact h1
   ·exact runX_no f _ _ _ h1
theorem zV3 {c : Cf} : ∀ (f : Nat) (x : XM) (ws : List Int) (lg : List Acc), xT (runX c f x ws lg).1 = xT x /\ xG (runX c f x ws lg).1 = xG x
 | 0, x, ws, lg => ⟨rfl, rfl⟩
 | f + 1, x, ws, lg => by
   have h1 : xT (stepX c x ws lg).1 = xT x /\ xG (stepX c x ws lg).1 = xG x := by cases x <;> exact ⟨rfl, rfl⟩
   rw [runX]
   split
   ·exact h1
   ·have := zV3 (c := c) f (stepX c x ws lg).1 (stepX c x ws lg).2.1 (stepX c x ws lg).2.2.1
    exact ⟨this.1.trans h1.1, this.2.trans h1.2⟩
theorem run_pk0 {c : Cf} {t : Nat} {x : Cl} {ws : List Int} {lg : List Acc} : ∀ u s, (runX c 200 (newX c t x) ws lg).1 = .pk u s -> s.fin = false -> s.n = 0 := fun u s e hf => by
 have hk := (zV3 (c := c) 200 (newX c t x) ws lg).2
 rw [e] at hk
 by_cases h6 : ∃ u0, newX c t x = .pk u0 ⟨false, 0⟩
 ·obtain ⟨u0, e0⟩ := h6
  rw [e0] at e
  exact runX_pk 200 _ _ _ u s (fun _ => rfl) e hf
 ·exfalso
  have hkeep : ∀ (f : Nat) (y : XM) (w1 : List Int) (l1 : List Acc), (∀ u s, y ≠ .pk u s) -> ∀ u s, (runX c f y w1 l1).1 ≠ .pk u s := by
   intro f
   induction f with
   | zero => intro y w1 l1 h u s; exact h u s
   | succ f ih =>
     intro y w1 l1 h u s
     have h1 : ∀ u s, (stepX c y w1 l1).1 ≠ .pk u s := by
      cases y with
      | pk u0 s0 => exact absurd rfl (h u0 s0)
      | no => intro u s q; cases q
      | ad p s => intro u s q; cases q
      | re p s => intro u s q; cases q
      | sh a b d e => intro u s q; cases q
      | ct a b => intro u s q; cases q
     rw [runX]
     split
     ·exact h1 u s
     ·exact ih _ _ _ h1 u s
  refine hkeep 200 (newX c t x) ws lg (fun u s q => ?_) u s e
  unfold newX at q
  split at q
  ·cases q
  ·split at q
   ·cases q
   ·split at q
    ·cases q
    ·split at q
     ·cases q
     ·split at q
      ·cases q
      ·refine h6 ⟨x.nd.toNat, ?_⟩
       rename_i a1 a2 a3 a4 a5
       unfold newX
       rw [if_neg a1, if_neg a2, if_neg a3, if_neg a4, if_neg a5]
theorem zTe (hr : c.Rt) (hvp : zZc W .i64 vp c.ps) (hvl : zZc W .i64 vl c.ls) (h : Rs c ws) (t : Nat) (ht : t <= 1000) (x : Cl) (hx : x.Wf) (hlg : lg.length <= 90000) (hO : Own W NoF (memA 101 m ws lg :: L) w) :
 Calls Tryz.prog 25 #[.pointer (some ⟨m, 0, none⟩), cfV c vp vl, .int .i64 t, clV x] w fun e w' => e = .returned (.tuple #[anV (oneC c t x ws lg).1, .bool true]) /\ Own W NoF (memA 101 m (oneC c t x ws lg).2.1 (oneC c t x ws lg).2.2 :: L) w' := by
 obtain ⟨pp, cp, rfl⟩ := hvp.slice
 obtain ⟨pl, cl, rfl⟩ := hvl.slice
 have h1 := ((hO.new (cfO c (.slice pp c.ps.length cp) (.slice pl c.ls.length cl))).new (.cells #[.int .i64 x.kd, .int .i64 x.nd, .int .i64 x.n] 40)).new (.cells #[.int .i64 0, .int .i64 0, .bool false, .int .i64 0] 50)
 simp only [World.size_alloc] at h1
 have HCk := fun w' (hs : Stp W w') => hid (zXz (w := w') hr (hvp.stp hs) (hvl.stp hs) x hx)
 have H1 := hid h1
 unfold clV at HCk ⊢
 obtain ⟨d0, d1, d2, d3, d4, d5, d6, d7⟩ := zZa h1.p2
 have q0 := h1.swap.cell (i := 0) rfl
 have q1 := h1.swap.cell (i := 1) rfl
 have q2 := h1.swap.cell (i := 2) rfl
 have HCk1 := HCk _ h1.toBelow
 by_cases hc : chk c x = 0
 ·have HNw := fun w' L (h : Own W NoF L w') => hid (cNew_any hr hvp hvl x hx hc t ht h)
  have HPl := fun g w' L (h' : Own W NoF (xA c (.slice pp c.ps.length cp) (.slice pl c.ls.length cl) g (newX c t x) :: memA 101 m ws lg :: L) w') => hid (cPlay_any hr hvp hvl h ht hc (by omega) 2800 (Nat.le_refl _) h')
  rw [show ((200 + 2800 : Nat) : Int) = 3000 from rfl] at HPl
  have eo : oneC c t x ws lg = (ansX (runX c 200 (newX c t x) ws lg).1, (runX c 200 (newX c t x) ws lg).2.1, (runX c 200 (newX c t x) ws lg).2.2.1) := by unfold oneC; rw [if_pos hc]
  rw [eo]
  have hno := runX_no (c := c) 200 (newX c t x) ws lg (zUq c t x)
  have hkd := zV3 (c := c) 200 (newX c t x) ws lg
  have HAn := fun g w' L (h : Own W NoF (xA c (.slice pp c.ps.length cp) (.slice pl c.ls.length cl) g (runX c 200 (newX c t x) ws lg).1 :: L) w') => hid (xAns_any _ hno (fun u s e hf => run_pk0 u s e hf) h)
  rw [hkd.2] at HAn
  have Hm := fun g => hid (xG_meth _ (zUq c t x) g)
  have He := hid (xG_enters _ (zUq c t x))
  rw [hc] at HCk1
  unfold PlayX at HPl
  clear h1 hO HCk hno hkd eo
  generalize xT (newX c t x) = ty at *
  generalize xG (newX c t x) = fg at *
  generalize (runX c 200 (newX c t x) ws lg).2.1 = ws' at *
  generalize (runX c 200 (newX c t x) ws lg).2.2.1 = lg' at *
  generalize cntX c 200 (newX c t x) ws lg = nn at *
  generalize ansX (runX c 200 (newX c t x) ws lg).1 = A at *
  unfold clV at HNw
  obtain ⟨er, n, ex, nd⟩ := A
  unfold anV ansV at HAn ⊢
  simp only at HAn ⊢
  go_enter Tryz.func25, Tryz.ntmps25
  go_wp2_with fail
  refine HCk1.out.mono ?_
  rintro e w2 ⟨rfl, hB⟩
  have h2 := H1.out.below hB
  clear HCk1 H1 hB d0 d1 d2 d3 d4 d5 d6 d7 q0 q1 q2
  generalize w.heap.size = C at *
  obtain ⟨d0, d1, d2, d3, d4, d5, d6, d7⟩ := zZa h2.p2
  have q0 := h2.swap.cell (i := 0) rfl
  have q1 := h2.swap.cell (i := 1) rfl
  have q2 := h2.swap.cell (i := 2) rfl
  have HN1 := HNw _ _ h2
  clear h2 HNw
  go_wp2_with fail
  refine HN1.out.mono ?_
  rintro e w3 ⟨g, rfl, hO⟩
  clear HN1 d0 d1 d2 d3 d4 d5 d6 d7 q0 q1 q2
  have HP1 := HPl g _ _ (hO.under fun _ _ h => h.p3)
  clear hO HPl
  go_wp2_with fail
  refine HP1.out.mono ?_
  rintro e w4 ⟨rfl, hO⟩
  have HA1 := HAn g _ _ hO
  have HO := hid hO
  have HM1 := Hm g
  clear hO HP1 HAn Hm
  go_wp2_with fail
  rw [HM1.out]
  simp only [Result.andThen, He.out]
  refine HA1.out.mono ?_
  rintro e w5 ⟨rfl, hB⟩
  have h3 := (HO.out.below hB).p2
  clear HA1 HO hB HM1 He
  have k0 := h3.cell (i := 0) rfl
  have k1 := h3.cell (i := 1) rfl
  have k2 := h3.cell (i := 2) rfl
  have k3 := h3.cell (i := 3) rfl
  have f0 : ∀ i, w5.frozen? ⟨C + 1 + 1, i, none⟩ = false := fun i => h3.unfrozen
  have f00 := f0 0
  have f01 := f0 1
  have f02 := f0 2
  have f03 := f0 3
  have HZ := hid ((((h3.set 0 (.int .i64 er)).set 1 (.int .i64 n)).set 2 (.bool ex)).set 3 (.int .i64 nd))
  clear h3 f0
  go_wp2_with fail
  have hZ := HZ.out
  generalize World.setCell (World.setCell (World.setCell (World.setCell w5 _ _) _ _) _ _) _ _ = wz at hZ ⊢
  have r0 := hZ.cell (i := 0) rfl
  have r1 := hZ.cell (i := 1) rfl
  have r2 := hZ.cell (i := 2) rfl
  have r3 := hZ.cell (i := 3) rfl
  refine bodyPost_ret (v := .tuple #[.agg #[.int .i64 er, .int .i64 n, .bool ex, .int .i64 nd], .bool true]) (by simp [results, Tryz.results25, go_sem, r0, r1, r2, r3]; try rfl) rfl ⟨rfl, ?_⟩
  exact (hZ.swap.drop.swap.under fun _ _ h => h.drop.drop.drop)
 ·have eo : oneC c t x ws lg = (⟨chk c x, 0, false, 0⟩, ws, lg) := by unfold oneC; rw [if_neg hc]
  rw [eo]
  have hne : (chk c x != 0) = true := by simp [hc]
  clear h1 hO
  generalize chk c x = er at *
  go_enter Tryz.func25, Tryz.ntmps25
  go_wp2_with fail
  refine HCk1.out.mono ?_
  rintro e w2 ⟨rfl, hB⟩
  have h2 := H1.out.below hB
  clear HCk1 HCk H1 hB d0 d1 d2 d3 d4 d5 d6 d7 q0 q1 q2
  generalize w.heap.size = C at *
  have k0 := h2.cell (i := 0) rfl
  have k1 := h2.cell (i := 1) rfl
  have k2 := h2.cell (i := 2) rfl
  have k3 := h2.cell (i := 3) rfl
  have f0 : ∀ i, w2.frozen? ⟨C + 1 + 1, i, none⟩ = false := fun i => h2.unfrozen
  have f00 := f0 0
  have f01 := f0 1
  have f02 := f0 2
  have f03 := f0 3
  have HZ := hid ((((h2.set 0 (.int .i64 er)).set 1 (.int .i64 0)).set 2 (.bool false)).set 3 (.int .i64 0))
  clear h2 f0
  go_wp2_with fail
  have hZ := HZ.out
  generalize World.setCell (World.setCell (World.setCell (World.setCell w2 _ _) _ _) _ _) _ _ = wz at hZ ⊢
  have r0 := hZ.cell (i := 0) rfl
  have r1 := hZ.cell (i := 1) rfl
  have r2 := hZ.cell (i := 2) rfl
  have r3 := hZ.cell (i := 3) rfl
  unfold anV ansV
  refine bodyPost_ret (v := .tuple #[.agg #[.int .i64 er, .int .i64 0, .bool false, .int .i64 0], .bool true]) (by simp [results, Tryz.results25, go_sem, r0, r1, r2, r3]; try rfl) rfl ⟨rfl, hZ.drop.drop.drop⟩
end
section
variable {w0 w w' : World} {F0 : Nat -> Prop} {L : List Asn} {T : TypeId} {m : Nat} {ws : List Int} {lg : List Acc} {pp pl : Option Addr} {np cp nl cl : Nat}
end
end Go.Proofs.YtdglnpfnjinbkaaGreat
