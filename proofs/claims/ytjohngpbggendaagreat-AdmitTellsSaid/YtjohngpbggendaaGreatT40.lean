/- Texts of elder layers, one behind the other: AskWords, AskPk. -/
import Derived.Test.YtjohngpbggendaaGreatT39
section
/- breadlinelaw12.Words: fresh words, some tickets busy, so much available. -/
namespace Go.Proofs.YtjohngpbggendaaGreat
open Go.ChangeShapes Go.WideShapes Go.ChangeAt Go.RowKit Go.Shelf
set_option linter.unusedVariables false
set_option linter.unusedSimpArgs false
set_option maxRecDepth 100000
variable {w0 w w' W : World} {F0 : Nat → Prop} {L : List Asn} {T : TypeId} {m : Nat} {ws : List Int} {lg : List Acc}
def akB (x : Ak) : Nat → List Int
  | 0 => freshW x.c x.c.ps.length
  | k + 1 => if x.bs.getD k false = true then (akB x k).set (tkN x.c k) 4294967297 else akB x k
def akRB (x : Ak) : Nat := min x.bs.length x.c.ti.toNat
def akA (x : Ak) : Nat → List Int
  | 0 => akB x (akRB x)
  | k + 1 => (akA x k).set (avN x.c k) (x.av.getD k 0)
def akRA (x : Ak) : Nat := min x.av.length x.c.ps.length
def akW (x : Ak) : List Int := akA x (akRA x)
theorem akB_len (x : Ak) : ∀ k, (akB x k).length = sizeN x.c
  | 0 => freshW_len x.c _
  | k + 1 => by rw [akB]; split <;> (try rw [List.length_set]) <;> exact akB_len x k
theorem akA_len (x : Ak) : ∀ k, (akA x k).length = sizeN x.c
  | 0 => akB_len x _
  | k + 1 => by rw [akA, List.length_set, akA_len x k]
set_option maxHeartbeats 4000000 in
theorem aWords_any {x : Ak} {vp vl vb va vk : Value} (H : AkAt W x vp vl vb va vk) (hg : GoodA x) (h : Own W NoF L w) :
    Calls Tryz.prog 12 #[akV x vp vl vb va vk] w (RetRow W NoF L 3 1 (sizeN x.c) (intC (akW x))) := by
  have hr := hg.rt
  obtain ⟨pp, cp, rfl⟩ := H.p.slice
  obtain ⟨pl, cl, rfl⟩ := H.l.slice
  obtain ⟨pb, cb, rfl⟩ := H.b.slice
  obtain ⟨pa, ca, rfl⟩ := H.a.slice
  obtain ⟨k1, k2, k3, k4, k5, k6⟩ := tk_eq hr
  have n1 := hr.n1
  have h1 := h.new (akO x (.slice pp x.c.ps.length cp) (.slice pl x.c.ls.length cl) (.slice pb x.bs.length cb) (.slice pa x.av.length ca) vk)
  have HF := fun w L h => Lib.hid (rFresh_any (w0 := W) (F0 := NoF) (L := L) (w := w) (pp := pp) (cp := cp) (vl := .slice pl x.c.ls.length cl) x.c hr (fun w' h' => H.l.stp (Own.toBelow h')) h)
  have HT := fun k k0 k1 w => Lib.hid (rTicket_q (pp := pp) (np := x.c.ps.length) (cp := cp) (pl := pl) (nl := x.c.ls.length) (cl := cl) x.c hr.sm n1 k k0 k1 w)
  rw [k1] at HT
  have HA := fun (k : Nat) k1 w => Lib.hid (show Calls Tryz.prog 30 #[cfV x.c (.slice pp x.c.ps.length cp) (.slice pl x.c.ls.length cl), .int .i64 k] w fun e w' => e = .returned (.int .i64 (avN x.c k)) ∧ Below w.heap.size w w' from by
    have h := rAvail_q (pp := pp) (np := x.c.ps.length) (cp := cp) (pl := pl) (nl := x.c.ls.length) (cl := cl) x.c hr.sm (k : Int) (by omega) k1 w
    rw [limN_eq hr.sm] at h
    unfold avN
    push_cast
    exact h)
  have Hb0 := Lib.hid (show akB x 0 = freshW x.c x.c.ps.length from rfl)
  have HbY := Lib.hid (fun k (h : x.bs.getD k false = true) => show akB x (k + 1) = (akB x k).set (tkN x.c k) 4294967297 by rw [akB, if_pos h])
  have HbN := Lib.hid (fun k (h : x.bs.getD k false = false) => show akB x (k + 1) = akB x k by rw [akB, if_neg (by rw [h]; decide)])
  have Hbl := Lib.hid (akB_len x)
  have Ha0 := Lib.hid (show akA x 0 = akB x (akRB x) from rfl)
  have Has := Lib.hid (show ∀ k, akA x (k + 1) = (akA x k).set (avN x.c k) (x.av.getD k 0) from fun _ => rfl)
  have Hal := Lib.hid (akA_len x)
  have HW := Lib.hid (show akW x = akA x (akRA x) from rfl)
  have HRB := Lib.hid (show akRB x = min x.bs.length x.c.ti.toNat from rfl)
  have HRA := Lib.hid (show akRA x = min x.av.length x.c.ps.length from rfl)
  have HTK := Lib.hid (fun k => show tkN x.c k = limN x.c x.c.ps.length + 2 * k from rfl)
  have HAV := Lib.hid (show ∀ k, k < x.c.ps.length → avN x.c k < sizeN x.c from fun k hk => by have := limN_lt x.c hk; unfold avN sizeN; omega)
  have HK2 := Lib.hid k2
  have HK4 := Lib.hid k4
  have HE := fun (h0 : 0 < x.bs.length) => H.b.at h0
  have HG := fun (h0 : 0 < x.av.length) => H.a.at h0
  have Hav := Lib.hid H.wf.av
  have hbn := hg.b
  have han := hg.a
  rw [HW.out]
  clear k1 k2 k4 hr
  generalize freshW x.c x.c.ps.length = fw at *
  generalize akB x = pwB at *
  generalize akA x = pw at *
  generalize akRB x = RB at *
  generalize akRA x = RA at *
  generalize tkN x.c = tk at *
  generalize avN x.c = av at *
  generalize limN x.c x.c.ps.length = b at *
  generalize sizeN x.c = N at *
  generalize x.c.ti.toNat = TI at *
  have H1 := Lib.hid h1
  obtain ⟨d0, d1, d2, d3, d4, d5, d6, d7, d8, d9, d10, d11, d12, d13⟩ := akCells h1
  unfold akV
  clear h h1 hg H
  go_enter Tryz.func12, Tryz.ntmps12
  have HF1 := HF _ _ H1.out
  obtain ⟨B, hBd⟩ : ∃ B, B = w.heap.size := ⟨_, rfl⟩
  rw [← hBd] at HF1 d0 d1 d2 d3 d4 d5 d6 d7 d8 d9 d10 d11 d12 d13
  clear HF H1
  go_wp2_with fail
  rw [← hBd]
  clear hBd
  refine HF1.out.mono ?_
  rintro e w2 ⟨m, rfl, hO⟩
  clear HF1 d0 d1 d2 d3 d4 d5 d6 d7 d8 d9 d10 d11 d12 d13
  rw [← Hb0.out] at hO
  have HO1 := Lib.hid hO
  clear hO
  go_wp2_with fail
  have hR2 : RB ≤ TI ∧ RB ≤ x.bs.length := by have := HRB.out; omega
  go_loopw [4] (fun v4 wr => ∃ k : Nat, k ≤ RB ∧ v4 = .int .i64 k ∧ Own W NoF (memA 42 m (pwB k) [] :: blk B (akO x (.slice pp x.c.ps.length cp) (.slice pl x.c.ls.length cl) (.slice pb x.bs.length cb) (.slice pa x.av.length ca) vk) :: L) wr) (fun v4 _ => RB - (intOf v4).toNat)
  case atStart => exact ⟨0, Nat.zero_le _, rfl, HO1.out⟩
  case round =>
    obtain ⟨k, hk, rfl, hO⟩ := hrel
    clear HO1
    obtain ⟨d0, d1, d2, d3, d4, d5, d6, d7, d8, d9, d10, d11, d12, d13⟩ := akCells hO.swap
    by_cases hlt : k < RB
    · obtain ⟨be, oe, ce', he, hce⟩ := HE (by omega)
      injection he with he _ he2
      subst he he2
      have hbe : be < W.heap.size := World.block_lt_of_cell? W _ (hce k (by omega))
      have e0 := (Below.cell hO.toBelow (p := ⟨be, oe + k, none⟩) hbe).trans (hce k (by omega))
      have HTk := fun w => HT k (by omega) (by omega) w
      have g1 : decide ((k : Int) < x.c.ti) = true := by rw [HK4.out]; simp; omega
      have g2 : decide ((k : Int) < (x.bs.length : Int)) = true := by simp; omega
      have g3 : (k : Int) < (x.bs.length : Int) := by omega
      have HP := fun w h => Lib.hid (rPoke_at (w0 := W) (F0 := NoF) (L := blk B (akO x (.slice pp x.c.ps.length cp) (.slice pl x.c.ls.length cl) (.slice (some ⟨be, oe, none⟩) x.bs.length cb) (.slice pa x.av.length ca) vk) :: L) (w := w) (T := 42) (m := m) (l := []) (ws := pwB k) (i := tk k) (j := (b : Int) + 2 * (k : Int)) (by have := HTK.out k; omega) (d := 4294967297) (by rw [Hbl.out]; have := HTK.out k; have := HK2.out; omega) h)
      have HY := Lib.hid (HbY.out k)
      have HN := Lib.hid (HbN.out k)
      have HO := Lib.hid hO
      clear hO HE HT hce
      generalize x.bs.getD k false = bb at *
      cases bb with
      | true =>
        have hO := HO.out
        clear HO
        go_wp2_with (first | (go_at_call 28; refine (HTk _).out.mono ?_; rintro e w3 ⟨rfl, hB⟩; have hO := Own.below hO hB; clear hB) | (go_at_call 50; refine (HP _ hO).out.mono ?_; rintro e w4 ⟨rfl, hO⟩))
        rw [← HY.out (by first | rfl | trivial)] at hO
        have HO := Lib.hid hO
        clear hO
        go_wp2_with fail
        go_roundw
        case rel => exact ⟨k + 1, by omega, by go_num, HO.out⟩
        case measure => simp [intOf]; omega
      | false =>
        rw [← HN.out (by first | rfl | trivial)] at HO
        go_wp2_with fail
        go_roundw
        case rel => exact ⟨k + 1, by omega, by go_num, HO.out⟩
        case measure => simp [intOf]; omega
    · obtain rfl : k = RB := by omega
      rw [← Ha0.out] at hO
      have HO2 := Lib.hid hO
      clear hO
      have hR := HRB.out
      by_cases hs : k < x.bs.length
      · have g1 : decide ((k : Int) < (x.bs.length : Int)) = true := by simp; omega
        have g2 : decide ((k : Int) < x.c.ti) = false := by rw [HK4.out]; simp; omega
        clear hR
        go_wp2_with fail
        clear g1 g2 hs
        clear d0 d1 d2 d3 d4 d5 d6 d7 d8 d9 d10 d11 d12 d13
        have hR3 : RA ≤ x.c.ps.length ∧ RA ≤ x.av.length := by have := HRA.out; omega
        go_loopw [5] (fun v5 wr => ∃ q : Nat, q ≤ RA ∧ v5 = .int .i64 q ∧ Own W NoF (memA 42 m (pw q) [] :: blk B (akO x (.slice pp x.c.ps.length cp) (.slice pl x.c.ls.length cl) (.slice pb x.bs.length cb) (.slice pa x.av.length ca) vk) :: L) wr) (fun v5 _ => RA - (intOf v5).toNat)
        case atStart => exact ⟨0, Nat.zero_le _, rfl, HO2.out⟩
        case round =>
          obtain ⟨q, hq, rfl, hO⟩ := hrel
          clear HO2
          obtain ⟨d0, d1, d2, d3, d4, d5, d6, d7, d8, d9, d10, d11, d12, d13⟩ := akCells hO.swap
          by_cases hlt2 : q < RA
          · obtain ⟨be, oe, ce', he, hce⟩ := HG (by omega)
            injection he with he _ he2
            subst he he2
            have hbe : be < W.heap.size := World.block_lt_of_cell? W _ (hce q (by omega))
            have hck : ∀ w', Stp W w' → w'.cell? ⟨be, oe + q, none⟩ = some (.int .u32 (x.av.getD q 0)) := fun w' hs => (Below.cell hs (p := ⟨be, oe + q, none⟩) hbe).trans (hce q (by omega))
            have HAq := fun w => HA q (by omega) w
            have hy := Hav.out q (by omega)
            have g4 : decide ((q : Int) < (x.av.length : Int)) = true := by simp; omega
            have g5 : decide ((q : Int) < (x.c.ps.length : Int)) = true := by simp; omega
            have g6 : (q : Int) < (x.av.length : Int) := by omega
            have g7 : q < x.av.length := by omega
            have g8 : q < x.c.ps.length := by omega
            have Hnx := Lib.hid (Has.out q)
            have HP := fun w h => Lib.hid (rPoke_at (w0 := W) (F0 := NoF) (L := blk B (akO x (.slice pp x.c.ps.length cp) (.slice pl x.c.ls.length cl) (.slice pb x.bs.length cb) (.slice (some ⟨be, oe, none⟩) x.av.length ca) vk) :: L) (w := w) (T := 42) (m := m) (l := []) (ws := pw q) (i := av q) (j := (av q : Int)) (by first | rfl | (rw [Hal.out]; have := HAV.out q g8; omega)) (d := x.av.getD q 0) (by first | rfl | (rw [Hal.out]; have := HAV.out q g8; omega)) h)
            have Hst := Lib.hid hck
            have e0 := hck _ hO.toBelow
            generalize x.av.getD q 0 = y at *
            have hw1 : IntKind.i64.wrap y = y := IntWalk.i64_in _ (by omega)
            have hOd := hO.drew
            clear hO HG HA hce hck
            go_wp2_with fail
            go_region_held3 (fun w' => w'.cell? ⟨B, 0, none⟩ = some (.int .i64 x.c.th) ∧ w'.cell? ⟨B, 1, none⟩ = some (.int .i64 x.c.st) ∧ w'.cell? ⟨B, 2, none⟩ = some (.int .i64 x.c.ga) ∧ w'.cell? ⟨B, 3, none⟩ = some (.int .i64 x.c.le) ∧ w'.cell? ⟨B, 4, none⟩ = some (.int .i64 x.c.re) ∧ w'.cell? ⟨B, 5, none⟩ = some (.int .i64 x.c.ti) ∧ w'.cell? ⟨B, 6, none⟩ = some (.slice pp x.c.ps.length cp) ∧ w'.cell? ⟨B, 7, none⟩ = some (.slice pl x.c.ls.length cl) ∧ w'.cell? ⟨B, 12, none⟩ = some (.slice (some ⟨be, oe, none⟩) x.av.length ca) ∧ w'.cell? ⟨be, oe + q, none⟩ = some (.int .u32 y)) (go_keep) (first | (go_at_call 30; refine (HAq _).out.mono ?_; rintro e w' ⟨rfl, hB⟩; have hO := Own.below (by with_reducible assumption) hB; obtain ⟨d0, d1, d2, d3, d4, d5, d6, d7, d8, d9, d10, d11, d12, d13⟩ := akCells hO.swap; have e0 := Hst.out _ hO.toBelow) | (go_at_call 50; refine (HP _ (by with_reducible assumption)).out.mono ?_; rintro e w' ⟨rfl, hO⟩; obtain ⟨d0, d1, d2, d3, d4, d5, d6, d7, d8, d9, d10, d11, d12, d13⟩ := akCells hO.swap; have e0 := Hst.out _ hO.toBelow))
            all_goals
              rw [← Hnx.out] at hO
              have HO := Lib.hid hO
              clear hO hOd
              go_wp2_with fail
              go_roundw
              case rel => exact ⟨q + 1, by omega, by go_num, HO.out⟩
              case measure => simp [intOf]; omega
          · obtain rfl : q = RA := by omega
            obtain ⟨vw, vl', hM⟩ := hO.mem
            have c0 : wr.cell? ⟨m, 0, none⟩ = some vw := hM.cell (i := 0) rfl
            have HM := Lib.hid (hM.drop.under fun _ _ h => h.drop.drop)
            clear hM hO
            rw [Hal.out] at HM
            have hR := HRA.out
            by_cases hs2 : q < x.av.length
            · have g4 : decide ((q : Int) < (x.av.length : Int)) = true := by simp; omega
              have g5 : decide ((q : Int) < (x.c.ps.length : Int)) = false := by simp; omega
              have g6 : decide (q < x.c.ps.length) = false := by simp; omega
              clear hR
              go_wp2_with fail
              go_ret
              exact ⟨_, rfl, HM.out⟩
            · have g4 : decide ((q : Int) < (x.av.length : Int)) = false := by simp; omega
              have g6 : decide (q < x.av.length) = false := by simp; omega
              clear hR
              go_wp2_with fail
              go_ret
              exact ⟨_, rfl, HM.out⟩
      · have g1 : decide ((k : Int) < (x.bs.length : Int)) = false := by simp; omega
        have g2 : decide (k < x.bs.length) = false := by simp; omega
        clear hR
        go_wp2_with fail
        clear g1 g2 hs
        clear d0 d1 d2 d3 d4 d5 d6 d7 d8 d9 d10 d11 d12 d13
        have hR3 : RA ≤ x.c.ps.length ∧ RA ≤ x.av.length := by have := HRA.out; omega
        go_loopw [5] (fun v5 wr => ∃ q : Nat, q ≤ RA ∧ v5 = .int .i64 q ∧ Own W NoF (memA 42 m (pw q) [] :: blk B (akO x (.slice pp x.c.ps.length cp) (.slice pl x.c.ls.length cl) (.slice pb x.bs.length cb) (.slice pa x.av.length ca) vk) :: L) wr) (fun v5 _ => RA - (intOf v5).toNat)
        case atStart => exact ⟨0, Nat.zero_le _, rfl, HO2.out⟩
        case round =>
          obtain ⟨q, hq, rfl, hO⟩ := hrel
          clear HO2
          obtain ⟨d0, d1, d2, d3, d4, d5, d6, d7, d8, d9, d10, d11, d12, d13⟩ := akCells hO.swap
          by_cases hlt2 : q < RA
          · obtain ⟨be, oe, ce', he, hce⟩ := HG (by omega)
            injection he with he _ he2
            subst he he2
            have hbe : be < W.heap.size := World.block_lt_of_cell? W _ (hce q (by omega))
            have hck : ∀ w', Stp W w' → w'.cell? ⟨be, oe + q, none⟩ = some (.int .u32 (x.av.getD q 0)) := fun w' hs => (Below.cell hs (p := ⟨be, oe + q, none⟩) hbe).trans (hce q (by omega))
            have HAq := fun w => HA q (by omega) w
            have hy := Hav.out q (by omega)
            have g4 : decide ((q : Int) < (x.av.length : Int)) = true := by simp; omega
            have g5 : decide ((q : Int) < (x.c.ps.length : Int)) = true := by simp; omega
            have g6 : (q : Int) < (x.av.length : Int) := by omega
            have g7 : q < x.av.length := by omega
            have g8 : q < x.c.ps.length := by omega
            have Hnx := Lib.hid (Has.out q)
            have HP := fun w h => Lib.hid (rPoke_at (w0 := W) (F0 := NoF) (L := blk B (akO x (.slice pp x.c.ps.length cp) (.slice pl x.c.ls.length cl) (.slice pb x.bs.length cb) (.slice (some ⟨be, oe, none⟩) x.av.length ca) vk) :: L) (w := w) (T := 42) (m := m) (l := []) (ws := pw q) (i := av q) (j := (av q : Int)) (by first | rfl | (rw [Hal.out]; have := HAV.out q g8; omega)) (d := x.av.getD q 0) (by first | rfl | (rw [Hal.out]; have := HAV.out q g8; omega)) h)
            have Hst := Lib.hid hck
            have e0 := hck _ hO.toBelow
            generalize x.av.getD q 0 = y at *
            have hw1 : IntKind.i64.wrap y = y := IntWalk.i64_in _ (by omega)
            have hOd := hO.drew
            clear hO HG HA hce hck
            go_wp2_with fail
            go_region_held3 (fun w' => w'.cell? ⟨B, 0, none⟩ = some (.int .i64 x.c.th) ∧ w'.cell? ⟨B, 1, none⟩ = some (.int .i64 x.c.st) ∧ w'.cell? ⟨B, 2, none⟩ = some (.int .i64 x.c.ga) ∧ w'.cell? ⟨B, 3, none⟩ = some (.int .i64 x.c.le) ∧ w'.cell? ⟨B, 4, none⟩ = some (.int .i64 x.c.re) ∧ w'.cell? ⟨B, 5, none⟩ = some (.int .i64 x.c.ti) ∧ w'.cell? ⟨B, 6, none⟩ = some (.slice pp x.c.ps.length cp) ∧ w'.cell? ⟨B, 7, none⟩ = some (.slice pl x.c.ls.length cl) ∧ w'.cell? ⟨B, 12, none⟩ = some (.slice (some ⟨be, oe, none⟩) x.av.length ca) ∧ w'.cell? ⟨be, oe + q, none⟩ = some (.int .u32 y)) (go_keep) (first | (go_at_call 30; refine (HAq _).out.mono ?_; rintro e w' ⟨rfl, hB⟩; have hO := Own.below (by with_reducible assumption) hB; obtain ⟨d0, d1, d2, d3, d4, d5, d6, d7, d8, d9, d10, d11, d12, d13⟩ := akCells hO.swap; have e0 := Hst.out _ hO.toBelow) | (go_at_call 50; refine (HP _ (by with_reducible assumption)).out.mono ?_; rintro e w' ⟨rfl, hO⟩; obtain ⟨d0, d1, d2, d3, d4, d5, d6, d7, d8, d9, d10, d11, d12, d13⟩ := akCells hO.swap; have e0 := Hst.out _ hO.toBelow))
            all_goals
              rw [← Hnx.out] at hO
              have HO := Lib.hid hO
              clear hO hOd
              go_wp2_with fail
              go_roundw
              case rel => exact ⟨q + 1, by omega, by go_num, HO.out⟩
              case measure => simp [intOf]; omega
          · obtain rfl : q = RA := by omega
            obtain ⟨vw, vl', hM⟩ := hO.mem
            have c0 : wr.cell? ⟨m, 0, none⟩ = some vw := hM.cell (i := 0) rfl
            have HM := Lib.hid (hM.drop.under fun _ _ h => h.drop.drop)
            clear hM hO
            rw [Hal.out] at HM
            have hR := HRA.out
            by_cases hs2 : q < x.av.length
            · have g4 : decide ((q : Int) < (x.av.length : Int)) = true := by simp; omega
              have g5 : decide ((q : Int) < (x.c.ps.length : Int)) = false := by simp; omega
              have g6 : decide (q < x.c.ps.length) = false := by simp; omega
              clear hR
              go_wp2_with fail
              go_ret
              exact ⟨_, rfl, HM.out⟩
            · have g4 : decide ((q : Int) < (x.av.length : Int)) = false := by simp; omega
              have g6 : decide (q < x.av.length) = false := by simp; omega
              clear hR
              go_wp2_with fail
              go_ret
              exact ⟨_, rfl, HM.out⟩
end Go.Proofs.YtjohngpbggendaaGreat
end
section
/- The pokes of layer 12's laws, as numbers. No program in it. -/
namespace Go.Proofs.YtjohngpbggendaaGreat
open Go.RowKit
set_option linter.unusedVariables false
def pkzA (c : Cf) (a r n : Int) : Pk :=
  if r = 0 then ⟨a, lim c (n % (c.ps.length : Int)) + 1, n⟩
  else if r = 1 then ⟨a, lim c (n % (c.ps.length : Int)) + 2 + n % c.st, n % (c.le + 1)⟩
  else ⟨a, lim c (n % (c.ps.length : Int)) + 2 + c.st + 4 + n % c.st, sg (pmk (n % 1000) (n % c.ga))⟩
def pokeA (c : Cf) (q : Pk) : Pk := pkzA c q.at_ ((if q.w < 0 then 0 else q.w) % 3) ((if q.x < 0 then 0 else q.x) % 4294967296)
def poA (x : Ak) : List Pk := x.l.map (pokeA x.c)
theorem poA_len (x : Ak) : (poA x).length = x.l.length := by simp [poA]
theorem poA_take (x : Ak) (k : Nat) (hk : k < x.l.length) : (poA x).take (k + 1) = (poA x).take k ++ [pokeA x.c (x.l.getD k default)] := by
  have h : k < (poA x).length := by rw [poA_len]; exact hk
  rw [List.take_add_one, List.getElem?_eq_getElem h]
  simp [poA, List.getD, hk]
theorem pokeA_of {c : Cf} {y0 y1 y2 r n : Int} (hr : (if y1 < 0 then 0 else y1) % 3 = r) (hn : (if y2 < 0 then 0 else y2) % 4294967296 = n) : pokeA c ⟨y0, y1, y2⟩ = pkzA c y0 r n := by
  unfold pokeA; simp only [hr, hn]
theorem pkzA_0 {c : Cf} {a n v : Int} (hv : n % (c.ps.length : Int) = v) : pkzA c a 0 n = ⟨a, lim c v + 1, n⟩ := by unfold pkzA; rw [if_pos rfl, hv]
theorem pkzA_1 {c : Cf} {a n v s z : Int} (hv : n % (c.ps.length : Int) = v) (hs : n % c.st = s) (hz : n % (c.le + 1) = z) : pkzA c a 1 n = ⟨a, lim c v + 2 + s, z⟩ := by unfold pkzA; rw [if_neg (by decide), if_pos rfl, hv, hs, hz]
theorem pkzA_2 {c : Cf} {a n v s e g : Int} (hv : n % (c.ps.length : Int) = v) (hs : n % c.st = s) (he : n % 1000 = e) (hg : n % c.ga = g) : pkzA c a 2 n = ⟨a, lim c v + 2 + c.st + 4 + s, sg (pmk e g)⟩ := by unfold pkzA; rw [if_neg (by decide), if_neg (by decide), hv, hs, he, hg]
end Go.Proofs.YtjohngpbggendaaGreat
end
