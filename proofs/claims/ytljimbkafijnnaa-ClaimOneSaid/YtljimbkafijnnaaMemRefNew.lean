/- Contracts of the document's Mem: New, Poke. -/
import Derived.Test.YtljimbkafijnnaaMemRows
namespace Go.Proofs.Ytljimbkafijnnaa
open Go.ChangeShapes Go.WideShapes Go.ChangeAt Go.RowKit Go.Shelf
set_option linter.unusedVariables false
variable {w0 w w' : World} {F0 : Nat → Prop} {L : List Asn} {T : TypeId} {m : Nat} {ws : List Int} {l : List Acc}
theorem rNew_any (n : Nat) (hn : n ≤ 10000) (h : Own w0 F0 L w) :
    Calls Try.prog 60 #[.int .i64 n] w (RetMem w0 F0 L 35 (List.replicate n 0) []) := by
  have hmk := fun w => make_ints n (by omega) w
  have h2 := Lib.hid ((h.new (.cells (zeroInts n) 3)).new (.cells #[.slice (some ⟨w.heap.size, 0, none⟩) n n, .slice none 0 0] 35))
  go_enter Try.func60, Try.ntmps60
  go_wp2_with fail
  go_ret
  refine ⟨_, rfl, ?_⟩
  rw [← World.size_alloc w (.cells (zeroInts n) 3)]
  have h3 := (h2.out.swap.blkRow (n := n) (cap := n) (size := 1) (xs := intC (List.replicate n 0)) (Nat.le_refl _) (by unfold maxLen; omega) (by simp [zeroInts_size]) (by rw [zeroInts_list, Nat.mul_one]; exact List.take_of_length_le (by simp [intC])) (by simp [intC])).swap
  exact (h3.under fun _ _ h => h.under fun _ _ h => h.rowNil).toMem' (ws := List.replicate n 0) (l := []) (by simp) rfl rfl rfl
theorem set_take (ws : List Int) (i k : Nat) (d : Int) (hk : k < ws.length) : intC ((ws.set i d).take k) ++ [.int .i64 (if k = i then d else ws.getD k 0)] = intC ((ws.set i d).take (k + 1)) := by
  unfold intC
  rw [List.take_add_one, List.map_append]
  congr 1
  rw [List.getElem?_set]
  by_cases h : i = k
  · subst h; simp [hk]
  · rw [if_neg h, if_neg (Ne.symm h)]; simp [hk]
theorem intC_take_len (ws : List Int) (k : Nat) (hk : k ≤ ws.length) : (intC (ws.take k)).length = k := by simp [intC]; omega
theorem rPoke_any (i : Nat) (d : Int) (hn : ws.length ≤ 1000000) (h : Own w0 F0 (memA T m ws l :: L) w) :
    Calls Try.prog 36 #[.pointer (some ⟨m, 0, none⟩), .int .i64 i, .int .i64 d] w fun e w' =>
      e = .returned (.tuple #[]) ∧ Own w0 F0 (memA T m (ws.set i d) l :: L) w' := by
  obtain ⟨vw, vl, h1⟩ := h.mem
  obtain ⟨p, cap, rfl⟩ := row_slice h1.swap
  obtain ⟨i0, hi0, hz0, hz1, hz2⟩ := info_parts Try.info_int
  have H1 := Lib.hid h1
  clear h h1
  go_enter Try.func36, Try.ntmps36
  go_wp2_with fail
  go_loopw [6, 7] (fun v j wr => ∃ k : Nat, k ≤ ws.length ∧ j = .int .i64 k ∧ Own w0 F0 (row v 3 1 k (intC ((ws.set i d).take k)) :: blk m (.cells #[.slice p ws.length cap, vl] T (0, 0)) :: row (.slice p ws.length cap) 3 1 ws.length (intC ws) :: row vl 59 5 l.length (logC l) :: L) wr)
    (fun _ j _ => ws.length - (intOf j).toNat)
  case atStart => exact ⟨0, Nat.zero_le _, rfl, H1.out.rowNil⟩
  case round =>
    obtain ⟨k, hk, rfl, hO⟩ := hrel
    have hm : wr.cell? ⟨m, 0, none⟩ = some (.slice p ws.length cap) := hO.swap.cell (i := 0) rfl
    by_cases hlt : k < ws.length
    · obtain ⟨b, off, cap', hv, hc⟩ := (hO.drop.drop.intsAt).at (by omega)
      injection hv with hp _ _
      subst hp
      have hck := hc k hlt
      have hst := set_take ws i k d hlt
      have H2 := Lib.hid (show k + 1 ≤ maxLen by unfold maxLen; omega)
      have H3 := Lib.hid (show (k + 1) * 8 ≤ 140737488355328 by omega)
      have HO := Lib.hid hO
      clear hc hO
      by_cases hki : k = i
      · subst hki
        rw [if_pos rfl] at hst
        have Hst := Lib.hid hst
        clear hst hck
        go_wp2_with (at_builtin; refine wpList_append_row rfl (.tmp 20) (.tmp 22) 22 rfl 3 i0 _ Try.underlying22 hi0 hz0 hz1 hz2 rfl (by decide) rfl (HO.out.alloc _) ⟨wr.heap.size, 0, none⟩ 1 1 [.int .i64 d] rfl rfl (news_at _ [.int .i64 d] _ _ rfl) (by simp [Value.oneCell']) H2.out H3.out ?_; intro v' w1 hO1 hg hn)
        rw [Hst.out] at hO1
        go_roundw
        case rel => exact ⟨k + 1, by omega, by go_num, hO1⟩
        case measure => simp [intOf]; omega
      · rw [if_neg hki] at hst
        have Hst := Lib.hid hst
        clear hst
        have hne : ((k : Int) == (i : Int)) = false := by rw [beq_eq_false_iff_ne]; omega
        clear hki
        generalize ws.getD k 0 = z at hck Hst
        go_wp2_with (at_builtin; refine wpList_append_row rfl (.tmp 24) (.tmp 32) 22 rfl 3 i0 _ Try.underlying22 hi0 hz0 hz1 hz2 rfl (by decide) rfl (HO.out.alloc _) ⟨wr.heap.size, 0, none⟩ 1 1 [.int .i64 z] rfl rfl (news_at _ [.int .i64 z] _ _ rfl) (by simp [Value.oneCell']) H2.out H3.out ?_; intro v' w1 hO1 hg hn)
        rw [Hst.out] at hO1
        go_roundw
        case rel => exact ⟨k + 1, by omega, by go_num, hO1⟩
        case measure => simp [intOf]; omega
    · have hkl : k = ws.length := by omega
      subst hkl
      obtain ⟨pv, cv, rfl⟩ := row_slice hO
      have hf : wr.frozen? ⟨m, 0, none⟩ = false := hO.swap.unfrozen
      go_wp2
      go_end0
      refine ⟨rfl, ?_⟩
      have h5 := hO.swap.set 0 (.slice pv ws.length cv)
      exact (h5.under fun _ _ h => h.under fun _ _ h => h.drop).toMem' (by simp) (by rw [List.take_of_length_le (by simp)]) rfl rfl
end Go.Proofs.Ytljimbkafijnnaa
