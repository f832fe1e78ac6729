/- Texts of elder layers, one behind the other: AskWords, AskPk, AskFacts, ReleaseAny. -/
import Derived.Test.YtlpdafldabfiaaaGreatC20
section
namespace Go.Proofs.YtlpdafldabfiaaaGreat
open Go.ChangeShapes Go.WideShapes Go.ChangeAt Go.RowKit Go.Shelf
set_option linter.unusedVariables false
set_option linter.unusedSimpArgs false
set_option maxRecDepth 100000
variable {w0 w w' W : World} {F0 : Nat → Prop} {L : List Asn} {T : TypeId} {m : Nat} {ws : List Int} {lg : List Acc}
def akB (x : Ak) : Nat → List Int
  | 0 => freshW x.c x.c.ps.length
  | k + 1 => if x.bs.getD k false = true then (akB x k).set (tkN x.c k) 4294967297 else akB x k
def akRB (x : Ak) : Nat := min x.bs.length x.c.ti.toNat
def akA (x : Ak) : Nat → List Int
  | 0 => akB x (akRB x)
  | k + 1 => (akA x k).set (avN x.c k) (x.av.getD k 0)
def akRA (x : Ak) : Nat := min x.av.length x.c.ps.length
def akW (x : Ak) : List Int := akA x (akRA x)
theorem akB_len (x : Ak) : ∀ k, (akB x k).length = sizeN x.c
  | 0 => freshW_len x.c _
  | k + 1 => by rw [akB]; split <;> (try rw [List.length_set]) <;> exact akB_len x k
theorem akA_len (x : Ak) : ∀ k, (akA x k).length = sizeN x.c
  | 0 => akB_len x _
  | k + 1 => by rw [akA, List.length_set, akA_len x k]
set_option maxHeartbeats 4000000 in
theorem aWords_any {x : Ak} {vp vl vb va vk : Value} (H : AkAt W x vp vl vb va vk) (hg : GoodA x) (h : Own W NoF L w) :
    Calls Tryz.prog 63 #[akV x vp vl vb va vk] w (RetRow W NoF L 3 1 (sizeN x.c) (intC (akW x))) := by
  have hr := hg.rt
  obtain ⟨pp, cp, rfl⟩ := H.p.slice
  obtain ⟨pl, cl, rfl⟩ := H.l.slice
  obtain ⟨pb, cb, rfl⟩ := H.b.slice
  obtain ⟨pa, ca, rfl⟩ := H.a.slice
  obtain ⟨k1, k2, k3, k4, k5, k6⟩ := tk_eq hr
  have n1 := hr.n1
  have h1 := h.new (akO x (.slice pp x.c.ps.length cp) (.slice pl x.c.ls.length cl) (.slice pb x.bs.length cb) (.slice pa x.av.length ca) vk)
  have HF := fun w L h => Lib.hid (rFresh_any (w0 := W) (F0 := NoF) (L := L) (w := w) (pp := pp) (cp := cp) (vl := .slice pl x.c.ls.length cl) x.c hr (fun w' h' => H.l.stp (Own.toBelow h')) h)
  have HT := fun k k0 k1 w => Lib.hid (rTicket_q (pp := pp) (np := x.c.ps.length) (cp := cp) (pl := pl) (nl := x.c.ls.length) (cl := cl) x.c hr.sm n1 k k0 k1 w)
  rw [k1] at HT
  have HA := fun (k : Nat) k1 w => Lib.hid (show Calls Tryz.prog 80 #[cfV x.c (.slice pp x.c.ps.length cp) (.slice pl x.c.ls.length cl), .int .i64 k] w fun e w' => e = .returned (.int .i64 (avN x.c k)) ∧ Below w.heap.size w w' from by
    have h := rAvail_q (pp := pp) (np := x.c.ps.length) (cp := cp) (pl := pl) (nl := x.c.ls.length) (cl := cl) x.c hr.sm (k : Int) (by omega) k1 w
    rw [limN_eq hr.sm] at h
    unfold avN
    push_cast
    exact h)
  have Hb0 := Lib.hid (show akB x 0 = freshW x.c x.c.ps.length from rfl)
  have HbY := Lib.hid (fun k (h : x.bs.getD k false = true) => show akB x (k + 1) = (akB x k).set (tkN x.c k) 4294967297 by rw [akB, if_pos h])
  have HbN := Lib.hid (fun k (h : x.bs.getD k false = false) => show akB x (k + 1) = akB x k by rw [akB, if_neg (by rw [h]; decide)])
  have Hbl := Lib.hid (akB_len x)
  have Ha0 := Lib.hid (show akA x 0 = akB x (akRB x) from rfl)
  have Has := Lib.hid (show ∀ k, akA x (k + 1) = (akA x k).set (avN x.c k) (x.av.getD k 0) from fun _ => rfl)
  have Hal := Lib.hid (akA_len x)
  have HW := Lib.hid (show akW x = akA x (akRA x) from rfl)
  have HRB := Lib.hid (show akRB x = min x.bs.length x.c.ti.toNat from rfl)
  have HRA := Lib.hid (show akRA x = min x.av.length x.c.ps.length from rfl)
  have HTK := Lib.hid (fun k => show tkN x.c k = limN x.c x.c.ps.length + 2 * k from rfl)
  have HAV := Lib.hid (show ∀ k, k < x.c.ps.length → avN x.c k < sizeN x.c from fun k hk => by have := limN_lt x.c hk; unfold avN sizeN; omega)
  have HK2 := Lib.hid k2
  have HK4 := Lib.hid k4
  have HE := fun (h0 : 0 < x.bs.length) => H.b.at h0
  have HG := fun (h0 : 0 < x.av.length) => H.a.at h0
  have Hav := Lib.hid H.wf.av
  have hbn := hg.b
  have han := hg.a
  rw [HW.out]
  clear k1 k2 k4 hr
  generalize freshW x.c x.c.ps.length = fw at *
  generalize akB x = pwB at *
  generalize akA x = pw at *
  generalize akRB x = RB at *
  generalize akRA x = RA at *
  generalize tkN x.c = tk at *
  generalize avN x.c = av at *
  generalize limN x.c x.c.ps.length = b at *
  generalize sizeN x.c = N at *
  generalize x.c.ti.toNat = TI at *
  have H1 := Lib.hid h1
  obtain ⟨d0, d1, d2, d3, d4, d5, d6, d7, d8, d9, d10, d11, d12, d13⟩ := akCells h1
  unfold akV
  clear h h1 hg H
  go_enter Tryz.func63, Tryz.ntmps63
  have HF1 := HF _ _ H1.out
  obtain ⟨B, hBd⟩ : ∃ B, B = w.heap.size := ⟨_, rfl⟩
  rw [← hBd] at HF1 d0 d1 d2 d3 d4 d5 d6 d7 d8 d9 d10 d11 d12 d13
  clear HF H1
  go_wp2_with fail
  rw [← hBd]
  clear hBd
  refine HF1.out.mono ?_
  rintro e w2 ⟨m, rfl, hO⟩
  clear HF1 d0 d1 d2 d3 d4 d5 d6 d7 d8 d9 d10 d11 d12 d13
  rw [← Hb0.out] at hO
  have HO1 := Lib.hid hO
  clear hO
  go_wp2_with fail
  have hR2 : RB ≤ TI ∧ RB ≤ x.bs.length := by have := HRB.out; omega
  go_loopw [4] (fun v4 wr => ∃ k : Nat, k ≤ RB ∧ v4 = .int .i64 k ∧ Own W NoF (memA 36 m (pwB k) [] :: blk B (akO x (.slice pp x.c.ps.length cp) (.slice pl x.c.ls.length cl) (.slice pb x.bs.length cb) (.slice pa x.av.length ca) vk) :: L) wr) (fun v4 _ => RB - (intOf v4).toNat)
  case atStart => exact ⟨0, Nat.zero_le _, rfl, HO1.out⟩
  case round =>
    obtain ⟨k, hk, rfl, hO⟩ := hrel
    clear HO1
    obtain ⟨d0, d1, d2, d3, d4, d5, d6, d7, d8, d9, d10, d11, d12, d13⟩ := akCells hO.swap
    by_cases hlt : k < RB
    · obtain ⟨be, oe, ce', he, hce⟩ := HE (by omega)
      injection he with he _ he2
      subst he he2
      have hbe : be < W.heap.size := World.block_lt_of_cell? W _ (hce k (by omega))
      have e0 := (Below.cell hO.toBelow (p := ⟨be, oe + k, none⟩) hbe).trans (hce k (by omega))
      have HTk := fun w => HT k (by omega) (by omega) w
      have g1 : decide ((k : Int) < x.c.ti) = true := by rw [HK4.out]; simp; omega
      have g2 : decide ((k : Int) < (x.bs.length : Int)) = true := by simp; omega
      have g3 : (k : Int) < (x.bs.length : Int) := by omega
      have HP := fun w h => Lib.hid (rPoke_at (w0 := W) (F0 := NoF) (L := blk B (akO x (.slice pp x.c.ps.length cp) (.slice pl x.c.ls.length cl) (.slice (some ⟨be, oe, none⟩) x.bs.length cb) (.slice pa x.av.length ca) vk) :: L) (w := w) (T := 36) (m := m) (l := []) (ws := pwB k) (i := tk k) (j := (b : Int) + 2 * (k : Int)) (by have := HTK.out k; omega) (d := 4294967297) (by rw [Hbl.out]; have := HTK.out k; have := HK2.out; omega) h)
      have HY := Lib.hid (HbY.out k)
      have HN := Lib.hid (HbN.out k)
      have HO := Lib.hid hO
      clear hO HE HT hce
      generalize x.bs.getD k false = bb at *
      cases bb with
      | true =>
        have hO := HO.out
        clear HO
        go_wp2_with (first | (go_at_call 39; refine (HTk _).out.mono ?_; rintro e w3 ⟨rfl, hB⟩; have hO := Own.below hO hB; clear hB) | (go_at_call 59; refine (HP _ hO).out.mono ?_; rintro e w4 ⟨rfl, hO⟩))
        rw [← HY.out (by first | rfl | trivial)] at hO
        have HO := Lib.hid hO
        clear hO
        go_wp2_with fail
        go_roundw
        case rel => exact ⟨k + 1, by omega, by go_num, HO.out⟩
        case measure => simp [intOf]; omega
      | false =>
        rw [← HN.out (by first | rfl | trivial)] at HO
        go_wp2_with fail
        go_roundw
        case rel => exact ⟨k + 1, by omega, by go_num, HO.out⟩
        case measure => simp [intOf]; omega
    · obtain rfl : k = RB := by omega
      rw [← Ha0.out] at hO
      have HO2 := Lib.hid hO
      clear hO
      have hR := HRB.out
      by_cases hs : k < x.bs.length
      · have g1 : decide ((k : Int) < (x.bs.length : Int)) = true := by simp; omega
        have g2 : decide ((k : Int) < x.c.ti) = false := by rw [HK4.out]; simp; omega
        clear hR
        go_wp2_with fail
        clear g1 g2 hs
        clear d0 d1 d2 d3 d4 d5 d6 d7 d8 d9 d10 d11 d12 d13
        have hR3 : RA ≤ x.c.ps.length ∧ RA ≤ x.av.length := by have := HRA.out; omega
        go_loopw [5] (fun v5 wr => ∃ q : Nat, q ≤ RA ∧ v5 = .int .i64 q ∧ Own W NoF (memA 36 m (pw q) [] :: blk B (akO x (.slice pp x.c.ps.length cp) (.slice pl x.c.ls.length cl) (.slice pb x.bs.length cb) (.slice pa x.av.length ca) vk) :: L) wr) (fun v5 _ => RA - (intOf v5).toNat)
        case atStart => exact ⟨0, Nat.zero_le _, rfl, HO2.out⟩
        case round =>
          obtain ⟨q, hq, rfl, hO⟩ := hrel
          clear HO2
          obtain ⟨d0, d1, d2, d3, d4, d5, d6, d7, d8, d9, d10, d11, d12, d13⟩ := akCells hO.swap
          by_cases hlt2 : q < RA
          · obtain ⟨be, oe, ce', he, hce⟩ := HG (by omega)
            injection he with he _ he2
            subst he he2
            have hbe : be < W.heap.size := World.block_lt_of_cell? W _ (hce q (by omega))
            have hck : ∀ w', Stp W w' → w'.cell? ⟨be, oe + q, none⟩ = some (.int .u32 (x.av.getD q 0)) := fun w' hs => (Below.cell hs (p := ⟨be, oe + q, none⟩) hbe).trans (hce q (by omega))
            have HAq := fun w => HA q (by omega) w
            have hy := Hav.out q (by omega)
            have g4 : decide ((q : Int) < (x.av.length : Int)) = true := by simp; omega
            have g5 : decide ((q : Int) < (x.c.ps.length : Int)) = true := by simp; omega
            have g6 : (q : Int) < (x.av.length : Int) := by omega
            have g7 : q < x.av.length := by omega
            have g8 : q < x.c.ps.length := by omega
            have Hnx := Lib.hid (Has.out q)
            have HP := fun w h => Lib.hid (rPoke_at (w0 := W) (F0 := NoF) (L := blk B (akO x (.slice pp x.c.ps.length cp) (.slice pl x.c.ls.length cl) (.slice pb x.bs.length cb) (.slice (some ⟨be, oe, none⟩) x.av.length ca) vk) :: L) (w := w) (T := 36) (m := m) (l := []) (ws := pw q) (i := av q) (j := (av q : Int)) (by first | rfl | (rw [Hal.out]; have := HAV.out q g8; omega)) (d := x.av.getD q 0) (by first | rfl | (rw [Hal.out]; have := HAV.out q g8; omega)) h)
            have Hst := Lib.hid hck
            have e0 := hck _ hO.toBelow
            generalize x.av.getD q 0 = y at *
            have hw1 : IntKind.i64.wrap y = y := IntWalk.i64_in _ (by omega)
            have hOd := hO.drew
            clear hO HG HA hce hck
            go_wp2_with fail
            go_region_held3 (fun w' => w'.cell? ⟨B, 0, none⟩ = some (.int .i64 x.c.th) ∧ w'.cell? ⟨B, 1, none⟩ = some (.int .i64 x.c.st) ∧ w'.cell? ⟨B, 2, none⟩ = some (.int .i64 x.c.ga) ∧ w'.cell? ⟨B, 3, none⟩ = some (.int .i64 x.c.le) ∧ w'.cell? ⟨B, 4, none⟩ = some (.int .i64 x.c.re) ∧ w'.cell? ⟨B, 5, none⟩ = some (.int .i64 x.c.ti) ∧ w'.cell? ⟨B, 6, none⟩ = some (.slice pp x.c.ps.length cp) ∧ w'.cell? ⟨B, 7, none⟩ = some (.slice pl x.c.ls.length cl) ∧ w'.cell? ⟨B, 12, none⟩ = some (.slice (some ⟨be, oe, none⟩) x.av.length ca) ∧ w'.cell? ⟨be, oe + q, none⟩ = some (.int .u32 y)) (go_keep) (first | (go_at_call 80; refine (HAq _).out.mono ?_; rintro e w' ⟨rfl, hB⟩; have hO := Own.below (by with_reducible assumption) hB; obtain ⟨d0, d1, d2, d3, d4, d5, d6, d7, d8, d9, d10, d11, d12, d13⟩ := akCells hO.swap; have e0 := Hst.out _ hO.toBelow) | (go_at_call 59; refine (HP _ (by with_reducible assumption)).out.mono ?_; rintro e w' ⟨rfl, hO⟩; obtain ⟨d0, d1, d2, d3, d4, d5, d6, d7, d8, d9, d10, d11, d12, d13⟩ := akCells hO.swap; have e0 := Hst.out _ hO.toBelow))
            all_goals
              rw [← Hnx.out] at hO
              have HO := Lib.hid hO
              clear hO hOd
              go_wp2_with fail
              go_roundw
              case rel => exact ⟨q + 1, by omega, by go_num, HO.out⟩
              case measure => simp [intOf]; omega
          · obtain rfl : q = RA := by omega
            obtain ⟨vw, vl', hM⟩ := hO.mem
            have c0 : wr.cell? ⟨m, 0, none⟩ = some vw := hM.cell (i := 0) rfl
            have HM := Lib.hid (hM.drop.under fun _ _ h => h.drop.drop)
            clear hM hO
            rw [Hal.out] at HM
            have hR := HRA.out
            by_cases hs2 : q < x.av.length
            · have g4 : decide ((q : Int) < (x.av.length : Int)) = true := by simp; omega
              have g5 : decide ((q : Int) < (x.c.ps.length : Int)) = false := by simp; omega
              have g6 : decide (q < x.c.ps.length) = false := by simp; omega
              clear hR
              go_wp2_with fail
              go_ret
              exact ⟨_, rfl, HM.out⟩
            · have g4 : decide ((q : Int) < (x.av.length : Int)) = false := by simp; omega
              have g6 : decide (q < x.av.length) = false := by simp; omega
              clear hR
              go_wp2_with fail
              go_ret
              exact ⟨_, rfl, HM.out⟩
      · have g1 : decide ((k : Int) < (x.bs.length : Int)) = false := by simp; omega
        have g2 : decide (k < x.bs.length) = false := by simp; omega
        clear hR
        go_wp2_with fail
        clear g1 g2 hs
        clear d0 d1 d2 d3 d4 d5 d6 d7 d8 d9 d10 d11 d12 d13
        have hR3 : RA ≤ x.c.ps.length ∧ RA ≤ x.av.length := by have := HRA.out; omega
        go_loopw [5] (fun v5 wr => ∃ q : Nat, q ≤ RA ∧ v5 = .int .i64 q ∧ Own W NoF (memA 36 m (pw q) [] :: blk B (akO x (.slice pp x.c.ps.length cp) (.slice pl x.c.ls.length cl) (.slice pb x.bs.length cb) (.slice pa x.av.length ca) vk) :: L) wr) (fun v5 _ => RA - (intOf v5).toNat)
        case atStart => exact ⟨0, Nat.zero_le _, rfl, HO2.out⟩
        case round =>
          obtain ⟨q, hq, rfl, hO⟩ := hrel
          clear HO2
          obtain ⟨d0, d1, d2, d3, d4, d5, d6, d7, d8, d9, d10, d11, d12, d13⟩ := akCells hO.swap
          by_cases hlt2 : q < RA
          · obtain ⟨be, oe, ce', he, hce⟩ := HG (by omega)
            injection he with he _ he2
            subst he he2
            have hbe : be < W.heap.size := World.block_lt_of_cell? W _ (hce q (by omega))
            have hck : ∀ w', Stp W w' → w'.cell? ⟨be, oe + q, none⟩ = some (.int .u32 (x.av.getD q 0)) := fun w' hs => (Below.cell hs (p := ⟨be, oe + q, none⟩) hbe).trans (hce q (by omega))
            have HAq := fun w => HA q (by omega) w
            have hy := Hav.out q (by omega)
            have g4 : decide ((q : Int) < (x.av.length : Int)) = true := by simp; omega
            have g5 : decide ((q : Int) < (x.c.ps.length : Int)) = true := by simp; omega
            have g6 : (q : Int) < (x.av.length : Int) := by omega
            have g7 : q < x.av.length := by omega
            have g8 : q < x.c.ps.length := by omega
            have Hnx := Lib.hid (Has.out q)
            have HP := fun w h => Lib.hid (rPoke_at (w0 := W) (F0 := NoF) (L := blk B (akO x (.slice pp x.c.ps.length cp) (.slice pl x.c.ls.length cl) (.slice pb x.bs.length cb) (.slice (some ⟨be, oe, none⟩) x.av.length ca) vk) :: L) (w := w) (T := 36) (m := m) (l := []) (ws := pw q) (i := av q) (j := (av q : Int)) (by first | rfl | (rw [Hal.out]; have := HAV.out q g8; omega)) (d := x.av.getD q 0) (by first | rfl | (rw [Hal.out]; have := HAV.out q g8; omega)) h)
            have Hst := Lib.hid hck
            have e0 := hck _ hO.toBelow
            generalize x.av.getD q 0 = y at *
            have hw1 : IntKind.i64.wrap y = y := IntWalk.i64_in _ (by omega)
            have hOd := hO.drew
            clear hO HG HA hce hck
            go_wp2_with fail
            go_region_held3 (fun w' => w'.cell? ⟨B, 0, none⟩ = some (.int .i64 x.c.th) ∧ w'.cell? ⟨B, 1, none⟩ = some (.int .i64 x.c.st) ∧ w'.cell? ⟨B, 2, none⟩ = some (.int .i64 x.c.ga) ∧ w'.cell? ⟨B, 3, none⟩ = some (.int .i64 x.c.le) ∧ w'.cell? ⟨B, 4, none⟩ = some (.int .i64 x.c.re) ∧ w'.cell? ⟨B, 5, none⟩ = some (.int .i64 x.c.ti) ∧ w'.cell? ⟨B, 6, none⟩ = some (.slice pp x.c.ps.length cp) ∧ w'.cell? ⟨B, 7, none⟩ = some (.slice pl x.c.ls.length cl) ∧ w'.cell? ⟨B, 12, none⟩ = some (.slice (some ⟨be, oe, none⟩) x.av.length ca) ∧ w'.cell? ⟨be, oe + q, none⟩ = some (.int .u32 y)) (go_keep) (first | (go_at_call 80; refine (HAq _).out.mono ?_; rintro e w' ⟨rfl, hB⟩; have hO := Own.below (by with_reducible assumption) hB; obtain ⟨d0, d1, d2, d3, d4, d5, d6, d7, d8, d9, d10, d11, d12, d13⟩ := akCells hO.swap; have e0 := Hst.out _ hO.toBelow) | (go_at_call 59; refine (HP _ (by with_reducible assumption)).out.mono ?_; rintro e w' ⟨rfl, hO⟩; obtain ⟨d0, d1, d2, d3, d4, d5, d6, d7, d8, d9, d10, d11, d12, d13⟩ := akCells hO.swap; have e0 := Hst.out _ hO.toBelow))
            all_goals
              rw [← Hnx.out] at hO
              have HO := Lib.hid hO
              clear hO hOd
              go_wp2_with fail
              go_roundw
              case rel => exact ⟨q + 1, by omega, by go_num, HO.out⟩
              case measure => simp [intOf]; omega
          · obtain rfl : q = RA := by omega
            obtain ⟨vw, vl', hM⟩ := hO.mem
            have c0 : wr.cell? ⟨m, 0, none⟩ = some vw := hM.cell (i := 0) rfl
            have HM := Lib.hid (hM.drop.under fun _ _ h => h.drop.drop)
            clear hM hO
            rw [Hal.out] at HM
            have hR := HRA.out
            by_cases hs2 : q < x.av.length
            · have g4 : decide ((q : Int) < (x.av.length : Int)) = true := by simp; omega
              have g5 : decide ((q : Int) < (x.c.ps.length : Int)) = false := by simp; omega
              have g6 : decide (q < x.c.ps.length) = false := by simp; omega
              clear hR
              go_wp2_with fail
              go_ret
              exact ⟨_, rfl, HM.out⟩
            · have g4 : decide ((q : Int) < (x.av.length : Int)) = false := by simp; omega
              have g6 : decide (q < x.av.length) = false := by simp; omega
              clear hR
              go_wp2_with fail
              go_ret
              exact ⟨_, rfl, HM.out⟩
end Go.Proofs.YtlpdafldabfiaaaGreat
end
section
namespace Go.Proofs.YtlpdafldabfiaaaGreat
open Go.RowKit
set_option linter.unusedVariables false
end Go.Proofs.YtlpdafldabfiaaaGreat
end
section
namespace Go.Proofs.YtlpdafldabfiaaaGreat
open Go.RowKit
set_option linter.unusedVariables false
theorem fresh_hi (c : Cf) : ∀ k j, limN c k ≤ j → (freshW c k).getD j 0 = 0
  | 0, j, _ => by
    rw [freshW]
    simp only [List.getD_eq_getElem?_getD, List.getElem?_replicate]
    split <;> rfl
  | k + 1, j, h => by
    have hs := limN_succ c k
    rw [freshW, layW, getD_set, if_neg (by omega), getD_set, if_neg (by omega), getD_set, if_neg (by omega)]
    exact fresh_hi c k j (by omega)
theorem fresh_at (c : Cf) : ∀ k, k ≤ c.ps.length → ∀ u, u < k → ∀ i, i < 6 + 2 * c.st.toNat → (freshW c k).getD (limN c u + i) 0 = if i ≤ 1 then c.ls.getD u 0 else if i = 5 + c.st.toNat then 1 else 0
  | 0, _, u, hu, _, _ => by omega
  | k + 1, hk, u, hu, i, hi => by
    have hs := limN_succ c k
    have hl := freshW_len c k
    have hz := limN_lt c (show k < c.ps.length by omega)
    have hsz : limN c c.ps.length ≤ sizeN c := by unfold sizeN; omega
    rw [freshW, layW, getD_set, getD_set, getD_set]
    simp only [List.length_set]
    by_cases e : u = k
    · subst e
      by_cases h5 : i = 5 + c.st.toNat
      · rw [if_pos ⟨by omega, by omega⟩, if_neg (by omega), if_pos h5]
      · rw [if_neg (by omega)]
        by_cases h1 : i = 1
        · rw [if_pos ⟨by omega, by omega⟩, if_pos (by omega)]
        · rw [if_neg (by omega)]
          by_cases h0 : i = 0
          · rw [if_pos ⟨by omega, by omega⟩, if_pos (by omega)]
          · rw [if_neg (by omega), if_neg (by omega), if_neg h5]
            exact fresh_hi c u _ (by omega)
    · have hlt := limN_lt c (show u < k by omega)
      rw [if_neg (by omega), if_neg (by omega), if_neg (by omega)]
      exact fresh_at c k (by omega) u (by omega) i hi
variable {x : Ak}
theorem akB_at (x : Ak) : ∀ k, k ≤ x.c.ti.toNat → ∀ j, (akB x k).getD j 0 = if (∃ t, t < k ∧ j = tkN x.c t ∧ x.bs.getD t false = true) then 4294967297 else (freshW x.c x.c.ps.length).getD j 0
  | 0, _, j => by rw [akB, if_neg (by rintro ⟨t, h, _⟩; omega)]
  | k + 1, hk, j => by
    have ih := akB_at x k (by omega) j
    have hin : tkN x.c k < sizeN x.c := by unfold tkN sizeN; omega
    rw [akB]
    by_cases hb : x.bs.getD k false = true
    · rw [if_pos hb, getD_set]
      by_cases e : tkN x.c k = j
      · rw [if_pos ⟨e, by rw [akB_len]; omega⟩, if_pos ⟨k, by omega, e.symm, hb⟩]
      · rw [if_neg (fun h => e h.1), ih]
        by_cases hx : ∃ t, t < k ∧ j = tkN x.c t ∧ x.bs.getD t false = true
        · obtain ⟨t, h1, h2, h3⟩ := hx
          rw [if_pos ⟨t, h1, h2, h3⟩, if_pos ⟨t, by omega, h2, h3⟩]
        · rw [if_neg hx, if_neg]
          rintro ⟨t, h1, h2, h3⟩
          by_cases et : t = k
          · subst et; exact e h2.symm
          · exact hx ⟨t, by omega, h2, h3⟩
    · rw [if_neg hb, ih]
      by_cases hx : ∃ t, t < k ∧ j = tkN x.c t ∧ x.bs.getD t false = true
      · obtain ⟨t, h1, h2, h3⟩ := hx
        rw [if_pos ⟨t, h1, h2, h3⟩, if_pos ⟨t, by omega, h2, h3⟩]
      · rw [if_neg hx, if_neg]
        rintro ⟨t, h1, h2, h3⟩
        by_cases et : t = k
        · subst et; exact hb h3
        · exact hx ⟨t, by omega, h2, h3⟩
theorem akA_at (x : Ak) : ∀ k, k ≤ x.c.ps.length → ∀ j, (akA x k).getD j 0 = if (∃ u, u < k ∧ j = avN x.c u) then x.av.getD ((j - 1) / (6 + 2 * x.c.st.toNat)) 0 else (akB x (akRB x)).getD j 0
  | 0, _, j => by rw [akA, if_neg (by rintro ⟨t, h, _⟩; omega)]
  | k + 1, hk, j => by
    have ih := akA_at x k (by omega) j
    have hin : avN x.c k < sizeN x.c := by have := limN_lt x.c (show k < x.c.ps.length by omega); unfold avN sizeN; omega
    have hdiv : ∀ u, (avN x.c u - 1) / (6 + 2 * x.c.st.toNat) = u := fun u => by
      unfold avN limN
      rw [Nat.add_sub_cancel]
      exact Nat.mul_div_cancel _ (by omega)
    rw [akA, getD_set]
    by_cases e : avN x.c k = j
    · rw [if_pos ⟨e, by rw [akA_len]; omega⟩, if_pos ⟨k, by omega, e.symm⟩, ← e, hdiv]
    · rw [if_neg (fun h => e h.1), ih]
      by_cases hx : ∃ u, u < k ∧ j = avN x.c u
      · obtain ⟨t, h1, h2⟩ := hx
        rw [if_pos ⟨t, h1, h2⟩, if_pos ⟨t, by omega, h2⟩]
      · rw [if_neg hx, if_neg]
        rintro ⟨t, h1, h2⟩
        by_cases et : t = k
        · subst et; exact e h2.symm
        · exact hx ⟨t, by omega, h2⟩
def akAv (x : Ak) (u : Nat) : Int := if u < x.av.length then x.av.getD u 0 else x.c.ls.getD u 0
theorem akW_node (x : Ak) (u : Nat) (hu : u < x.c.ps.length) (i : Nat) (hi : i < 6 + 2 * x.c.st.toNat) : (akW x).getD (limN x.c u + i) 0 = if i = 0 then x.c.ls.getD u 0 else if i = 1 then akAv x u else if i = 5 + x.c.st.toNat then 1 else 0 := by
  have hlt := limN_lt x.c hu
  have hRA : akRA x ≤ x.c.ps.length ∧ akRA x ≤ x.av.length ∧ (akRA x = x.c.ps.length ∨ akRA x = x.av.length) := by unfold akRA; omega
  have hRB : akRB x ≤ x.c.ti.toNat := by unfold akRB; omega
  have hf := fresh_at x.c x.c.ps.length (Nat.le_refl _) u hu i hi
  have hB : (akB x (akRB x)).getD (limN x.c u + i) 0 = (freshW x.c x.c.ps.length).getD (limN x.c u + i) 0 := by
    rw [akB_at x _ hRB, if_neg]
    rintro ⟨t, _, h, _⟩
    unfold tkN at h; omega
  unfold akW
  rw [akA_at x _ hRA.1, hB, hf]
  have hdiv : ∀ u, (avN x.c u - 1) / (6 + 2 * x.c.st.toNat) = u := fun u => by
    unfold avN limN
    rw [Nat.add_sub_cancel]
    exact Nat.mul_div_cancel _ (by omega)
  by_cases h1 : i = 1
  · subst h1
    have e : limN x.c u + 1 = avN x.c u := rfl
    rw [e]
    have hex : (∃ u', u' < akRA x ∧ avN x.c u = avN x.c u') ↔ u < x.av.length := by
      constructor
      · rintro ⟨t, h2, h3⟩
        have h4 := congrArg (fun q => (q - 1) / (6 + 2 * x.c.st.toNat)) h3
        simp only [hdiv] at h4
        omega
      · intro hl; exact ⟨u, by omega, rfl⟩
    by_cases hl : u < x.av.length
    · rw [if_pos (hex.2 hl), hdiv]; simp [akAv, hl]
    · rw [if_neg (fun h => hl (hex.1 h))]; simp [akAv, hl]
  · rw [if_neg]
    · by_cases h0 : i = 0
      · rw [if_pos (by omega), if_pos h0]
      · rw [if_neg (by omega), if_neg h0, if_neg h1]
    · rintro ⟨t, h2, h3⟩
      by_cases e : u = t
      · subst e; unfold avN at h3; omega
      · have hst := limN_succ x.c t
        have hsu := limN_succ x.c u
        rcases Nat.lt_or_gt_of_ne e with h | h
        · have := limN_mono (c := x.c) (show u + 1 ≤ t by omega); unfold avN at h3; omega
        · have := limN_mono (c := x.c) (show t + 1 ≤ u by omega); unfold avN at h3; omega
theorem akW_hi (x : Ak) (j : Nat) (hj : limN x.c x.c.ps.length ≤ j) : (akW x).getD j 0 = if (∃ t, t < x.c.ti.toNat ∧ j = tkN x.c t ∧ x.bs.getD t false = true) then 4294967297 else 0 := by
  have hRA : akRA x ≤ x.c.ps.length := by unfold akRA; omega
  have hRB : akRB x ≤ x.c.ti.toNat := by unfold akRB; omega
  unfold akW
  rw [akA_at x _ hRA, if_neg, akB_at x _ hRB, fresh_hi _ _ _ hj]
  · by_cases hx : ∃ t, t < akRB x ∧ j = tkN x.c t ∧ x.bs.getD t false = true
    · obtain ⟨t, h1, h2, h3⟩ := hx
      rw [if_pos ⟨t, h1, h2, h3⟩, if_pos ⟨t, by omega, h2, h3⟩]
    · rw [if_neg hx, if_neg]
      rintro ⟨t, h1, h2, h3⟩
      refine hx ⟨t, ?_, h2, h3⟩
      have : t < x.bs.length := by
        apply Nat.lt_of_not_le
        intro hle
        rw [show x.bs.getD t false = false from by simp [List.getD, List.getElem?_eq_none hle]] at h3
        exact absurd h3 (by decide)
      unfold akRB; omega
  · rintro ⟨t, h2, h3⟩
    have := limN_lt x.c (show t < x.c.ps.length by omega)
    unfold avN at h3; omega
theorem akW_tk (x : Ak) (t : Nat) (ht : t < x.c.ti.toNat) : (akW x).getD (tkN x.c t) 0 = if x.bs.getD t false = true then 4294967297 else 0 := by
  rw [akW_hi x _ (by unfold tkN; omega)]
  by_cases hb : x.bs.getD t false = true
  · rw [if_pos ⟨t, ht, rfl, hb⟩, if_pos hb]
  · rw [if_neg, if_neg hb]
    rintro ⟨t', _, h2, h3⟩
    have : t' = t := by unfold tkN at h2; omega
    subst this; exact hb h3
theorem akW_wf (x : Ak) (hr : x.c.Rt) (hw : x.Wf) (k : Nat) : I64 ((akW x).getD k 0) := by
  by_cases hk : limN x.c x.c.ps.length ≤ k
  · rw [akW_hi x k hk]; split <;> (unfold I64; omega)
  · have hs : 0 < 6 + 2 * x.c.st.toNat := by omega
    have hd := Nat.div_add_mod k (6 + 2 * x.c.st.toNat)
    have hm := Nat.mod_lt k hs
    have hu : k / (6 + 2 * x.c.st.toNat) < x.c.ps.length := by
      rw [Nat.div_lt_iff_lt_mul hs]
      unfold limN at hk; omega
    have e : k = limN x.c (k / (6 + 2 * x.c.st.toNat)) + k % (6 + 2 * x.c.st.toNat) := by
      unfold limN; rw [Nat.mul_comm]; exact hd.symm
    have h := akW_node x _ hu _ hm
    rw [← e] at h
    rw [h]
    have hlm := hr.lm _ (by rw [hr.ll]; exact hu)
    unfold Bd at hlm
    split
    · unfold I64; omega
    · split
      · unfold akAv
        split
        · rename_i h1; have := hw.av _ h1; unfold I64; omega
        · unfold I64; omega
      · split <;> (unfold I64; omega)
theorem akW_dw (x : Ak) (hr : x.c.Rt) (hw : x.Wf) : DW x.c 1099511627776 (akW x) := by
  have hst := st_nat hr
  have hga := hr.ga
  have hle := hr.le
  unfold Bd at hga hle
  refine ⟨akA_len x _, akW_wf x hr hw, fun u hu => ⟨?_, fun i hi => ?_, ?_, fun k hk => ?_⟩⟩
  · have h := akW_node x u hu 1 (by omega)
    rw [if_neg (by decide), if_pos rfl] at h
    have hlm := hr.lm u (by rw [hr.ll]; exact hu)
    unfold Bd at hlm
    show 0 ≤ (akW x).getD (limN x.c u + 1) 0 ∧ (akW x).getD (limN x.c u + 1) 0 ≤ 1099511627776
    rw [h]
    unfold akAv
    split
    · rename_i h1; have := hw.av _ h1; omega
    · exact hlm
  · have h := akW_node x u hu (2 + i) (by omega)
    rw [if_neg (by omega), if_neg (by omega), if_neg (by omega)] at h
    unfold leN
    rw [Nat.add_assoc, h]; omega
  · have h := akW_node x u hu (2 + x.c.st.toNat + 3) (by omega)
    rw [if_neg (by omega), if_neg (by omega), if_pos (by omega)] at h
    unfold ctN
    rw [show limN x.c u + 2 + x.c.st.toNat + 3 = limN x.c u + (2 + x.c.st.toNat + 3) by omega, h]
    unfold Pow8; omega
  · have h := akW_node x u hu (2 + x.c.st.toNat + 4 + k) (by omega)
    rw [if_neg (by omega), if_neg (by omega), if_neg (by omega)] at h
    unfold ctN
    rw [show limN x.c u + 2 + x.c.st.toNat + 4 + k = limN x.c u + (2 + x.c.st.toNat + 4 + k) by omega, h]
    have : pval 0 = 0 := by unfold pval wrap32; omega
    omega
def Ak.p (x : Ak) : DP := ⟨x.c, x.v, x.k, x.t⟩
theorem Ak.p_ok {x : Ak} (hr : x.c.Rt) : x.p.Ok := ⟨hr, (Ak.v_bd hr).1, Ak.k_bd.1, Ak.k_bd.2, Ak.t_bd.1⟩
theorem nodeOk_zero (x : Ak) (hr : x.c.Rt) (u : Nat) (hu : u < x.c.ps.length) : sumZ (ctP x.c u 0) (akW x) = 0 := by
  have hst := st_nat hr
  have hz : ∀ i, 2 + x.c.st.toNat ≤ i → i < 6 + 2 * x.c.st.toNat → i ≠ 5 + x.c.st.toNat → (akW x).getD (limN x.c u + i) 0 = 0 := fun i h1 h2 h3 => by
    have h := akW_node x u hu i h2
    rw [if_neg (by omega), if_neg (by omega), if_neg h3] at h; exact h
  have hstr : ∀ n, n ≤ x.c.st.toNat → strN (ctN x.c u) (akW x) n = 0 := fun n => by
    induction n with
    | zero => intro _; rfl
    | succ n ih =>
      intro hn
      rw [strN, ih (by omega)]
      have := hz (2 + x.c.st.toNat + 4 + n) (by omega) (by omega) (by omega)
      unfold ctN
      rw [show limN x.c u + 2 + x.c.st.toNat + 4 + n = limN x.c u + (2 + x.c.st.toNat + 4 + n) by omega, this]
      unfold pval wrap32; omega
  have h0 := hz (2 + x.c.st.toNat) (by omega) (by omega) (by omega)
  have h1 := hstr x.c.st.toNat (Nat.le_refl _)
  show (akW x).getD (ctN x.c u) 0 + strN (ctN x.c u) (akW x) x.c.st.toNat = 0
  rw [h1]
  unfold ctN
  rw [show limN x.c u + 2 + x.c.st.toNat = limN x.c u + (2 + x.c.st.toNat) by omega, h0]; rfl
end Go.Proofs.YtlpdafldabfiaaaGreat
end
section
namespace Go.Proofs.YtlpdafldabfiaaaGreat
open Go.RowKit
set_option linter.unusedVariables false
variable {p : RP} {s : RS} {ws ws0 : List Int} {lg : List Acc} {B0 : Int} {M0 t : Nat} {l : List Pk}
end Go.Proofs.YtlpdafldabfiaaaGreat
end
