/- The document's machines of layer 7: made, asked; a peek's step. -/
import Derived.Test.YtikncpmkjcnhhaaSnapRef
import Derived.Test.YtikncpmkjcnhhaaSnapMach
namespace Go.Proofs.Ytikncpmkjcnhhaa
open Go.ChangeShapes Go.WideShapes Go.ChangeAt Go.RowKit Go.Shelf
set_option linter.unusedVariables false
set_option linter.unusedSimpArgs false
set_option maxRecDepth 100000
variable {w0 w w' : World} {F0 : Nat → Prop} {L : List Asn} {T : TypeId} {m : Nat} {ws : List Int} {lg : List Acc}
theorem r7Count0 (b S r : Nat) (h : Own w0 F0 L w) :
    Calls Try.prog 14 #[.int .i64 b, .int .i64 S, .int .i64 r] w fun e w' => ∃ k, e = .returned (.pointer (some ⟨k, 0, none⟩)) ∧ Own w0 F0 (blk k (r7O b S r false (.slice none 0 0) 0 false false) :: L) w' := by
  have H1 := Lib.hid (h.new (r7O b S r false (.slice none 0 0) 0 false false))
  unfold r7O at H1 ⊢
  clear h
  go_enter Try.func14, Try.ntmps14
  go_wp2_with fail
  go_ret
  exact ⟨_, rfl, H1.out⟩
def rkA (k b : Nat) (s : KS) : Asn := blk k (r7O b 0 0 true (.slice none 0 0) s.n false s.fin)
theorem r7Peek_any (b : Nat) (h : Own w0 F0 L w) :
    Calls Try.prog 22 #[.int .i64 b] w fun e w' => ∃ k, e = .returned (.pointer (some ⟨k, 0, none⟩)) ∧ Own w0 F0 (rkA k b ⟨false, 0⟩ :: L) w' := by
  have H1 := Lib.hid (h.new (r7O b 0 0 true (.slice none 0 0) 0 false false))
  unfold rkA
  unfold r7O at H1 ⊢
  clear h
  go_enter Try.func22, Try.ntmps22
  go_wp2_with fail
  go_ret
  exact ⟨_, rfl, H1.out⟩
theorem r7Ans_any {k : Nat} {b S left n : Int} {gl x fin : Bool} {vg : Value} (h : Own w0 F0 (blk k (r7O b S left gl vg n x fin) :: L) w) :
    Calls Try.prog 20 #[.pointer (some ⟨k, 0, none⟩)] w fun e w' => e = .returned (ansV 0 n x 0) ∧ Below w.heap.size w w' := by
  obtain ⟨c0, c1, c2, c3, c4, c5, c6, c7, c8, c9, cf⟩ := r7Cells h
  have hg : k < w.heap.size := h.inHeap
  have hO := (Own.start w).new ansO
  have A5 : ∀ o, (w.alloc o).cell? ⟨k, 5, none⟩ = some (.int .i64 0) := fun o => (World.cell?_alloc_lt _ _ _ hg).trans c5
  have A6 : ∀ o, (w.alloc o).cell? ⟨k, 6, none⟩ = some (.int .i64 n) := fun o => (World.cell?_alloc_lt _ _ _ hg).trans c6
  have A7 : ∀ o, (w.alloc o).cell? ⟨k, 7, none⟩ = some (.bool x) := fun o => (World.cell?_alloc_lt _ _ _ hg).trans c7
  have A8 : ∀ o, (w.alloc o).cell? ⟨k, 8, none⟩ = some (.int .i64 0) := fun o => (World.cell?_alloc_lt _ _ _ hg).trans c8
  have HB := Lib.hid (fun y z u v => ((Own.start w).alloc (.cells #[y, z, u, v] 50)).toBelow)
  unfold ansV
  clear h hO
  go_enter Try.func20, Try.ntmps20
  go_wp2_with fail
  (try simp only [Exit.inBlock, Exit.then])
  refine bodyPost_ret (by simp [results, Try.results20, go_sem, *]; try rfl) rfl ?_
  exact ⟨rfl, HB.out _ _ _ _⟩
set_option maxHeartbeats 2000000 in
theorem r7Glance_any (k b : Nat) (s : KS) (hf : s.fin = false) (hb : b < ws.length) (hl : lg.length < 1000000) (h : Own w0 F0 (rkA k b s :: memA T m ws lg :: L) w) :
    Calls Try.prog 37 #[.pointer (some ⟨k, 0, none⟩), .pointer (some ⟨m, 0, none⟩)] w fun e w' => e = .returned (.bool true) ∧
      Own w0 F0 (rkA k b ⟨true, ws.getD b 0⟩ :: memA T m ws (lg ++ [⟨1, (b : Int), ws.getD b 0, 0, false⟩]) :: L) w' := by
  unfold rkA at h ⊢
  rw [hf] at h
  obtain ⟨c0, c1, c2, c3, c4, c5, c6, c7, c8, c9, cf⟩ := r7Cells h
  have HL0 := rLoad_any b hb hl h.swap
  generalize ws.getD b 0 = y at HL0 ⊢
  have HL := Lib.hid HL0
  clear h HL0
  go_enter Try.func37, Try.ntmps37
  go_wp2_with fail
  refine HL.out.mono ?_
  rintro e w2 ⟨rfl, hO⟩
  clear HL c0 c1 c2 c3 c4 c5 c6 c7 c8 c9 cf
  have hO := hO.swap
  obtain ⟨c0, c1, c2, c3, c4, c5, c6, c7, c8, c9, cf⟩ := r7Cells hO
  have HF := Lib.hid (r7Set9 (r7Ans hO y false) true)
  clear hO
  go_wp2_with fail
  go_ret
  exact ⟨rfl, HF.out⟩
def rkM (k b : Nat) : Mach KS where
  asn s := rkA k b s
  step s ws lg := stepK b s ws lg
  ok s ws lg := s.fin = false ∧ b < ws.length ∧ lg.length < 1000000
theorem rk_steps (k m b : Nat) (T : TypeId) : StepsBy w0 F0 (rkM k b) 37 (.pointer (some ⟨k, 0, none⟩)) T m := by
  intro L s ws lg w ⟨hf, hb, hl⟩ h
  simp only [rkM] at h ⊢
  have e : stepK b s ws lg = (⟨true, ws.getD b 0⟩, ws, lg ++ [⟨1, (b : Int), ws.getD b 0, 0, false⟩], true) := by unfold stepK; rw [if_neg (by simp [hf])]
  rw [e]
  exact r7Glance_any k b s hf hb hl h
end Go.Proofs.Ytikncpmkjcnhhaa
