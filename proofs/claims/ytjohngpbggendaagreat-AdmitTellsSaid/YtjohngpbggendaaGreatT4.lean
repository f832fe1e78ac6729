/- Texts of elder layers, one behind the other: MemRows. -/
import Derived.Test.YtjohngpbggendaaGreatT3
section
/- Contracts of package mem's New, Words and Log: what they hand out is new memory. -/
namespace Go.Proofs.YtjohngpbggendaaGreat
open Go.ChangeShapes Go.WideShapes Go.ChangeAt Go.RowKit Go.Shelf
set_option linter.unusedVariables false
variable {w0 w w' : World} {F0 : Nat → Prop} {L : List Asn} {T : TypeId} {m : Nat} {ws : List Int} {l : List Acc}
def RetMem (w0 : World) (F0 : Nat → Prop) (M : List Asn) (T : TypeId) (ws : List Int) (l : List Acc) (en : Ending) (w : World) : Prop := ∃ m, en = .returned (.pointer (some ⟨m, 0, none⟩)) ∧ Own w0 F0 (memA T m ws l :: M) w
theorem logC_one (zs : List Acc) : ∀ u ∈ logC zs, u.oneCell' = true := fun u hu => by
  obtain ⟨x, _, hx⟩ := List.mem_flatMap.1 hu
  simp [Acc.cells] at hx
  rcases hx with rfl | rfl | rfl | rfl | rfl <;> rfl
theorem CloneI_some (ad : Addr) (n c : Nat) (zs : List Int) (hz : zs.length = n) (hn : n ≤ 1000000) (hc : ∀ j u, (intC zs)[j]? = some u → w.cell? (ad.add j) = some u) (h : Own w0 F0 L w) :
    Calls Tryz.prog 64 #[.slice (some ad) n c] w (RetRow w0 F0 L 3 1 n (intC zs)) := by
  obtain ⟨i0, hi0, hz0, hz1, hz2⟩ := info_parts Tryz.info_int
  have h1 := Lib.hid ((h.new (.cells #[] 3)).blkRow (n := 0) (cap := 0) (size := 1) (xs := []) (Nat.le_refl _) (by decide) rfl rfl rfl)
  have H1 := Lib.hid (show 0 + n ≤ maxLen by unfold maxLen; omega)
  have H2 := Lib.hid (show (0 + n) * 8 ≤ 140737488355328 by omega)
  have hc2 : ∀ j u, (intC zs)[j]? = some u → (w.alloc (.cells #[] 3)).cell? (ad.add j) = some u := fun j u hu => by
    have := hc j u hu
    rw [World.cell?_alloc_lt _ _ _ (World.block_lt_of_cell? w _ this)]; exact this
  have Hc := Lib.hid hc2
  have Hz := Lib.hid (show (intC zs).length = n * 1 by rw [intC_len]; omega)
  have Ho := Lib.hid (show ∀ u ∈ intC zs, u.oneCell' = true from intC_one zs)
  have he : ∀ w : World, (binOp .eql 22 (.slice (some ad) n c) (.slice none 0 0)).run Tryz.prog w = .ok (.bool false) w := fun _ => by kernel_rfl
  clear hc hc2 hz
  go_enter Tryz.func64, Tryz.ntmps64
  go_wp2_with (at_builtin; refine wpList_append_row rfl (.tmp 5) (.tmp 6) 22 rfl 3 i0 _ Tryz.underlying22 hi0 hz0 hz1 hz2 rfl (by decide) rfl h1.out ad n c (intC zs) rfl Hz.out Hc.out Ho.out H1.out H2.out ?_; intro v' w' hO hg hn)
  go_ret
  exact ⟨_, rfl, by rw [Nat.zero_add] at hO; exact hO⟩
theorem CloneI_none (h : Own w0 F0 L w) :
    Calls Tryz.prog 64 #[.slice none 0 0] w (RetRow w0 F0 L 3 1 0 []) := by
  have he : ∀ w : World, (binOp .eql 22 (.slice none 0 0) (.slice none 0 0)).run Tryz.prog w = .ok (.bool true) w := fun _ => by kernel_rfl
  go_enter Tryz.func64, Tryz.ntmps64
  go_wp2
  go_ret
  exact ⟨_, rfl, h.rowNil⟩
theorem CloneI_row {v : Value} (zs : List Int) (hn : zs.length ≤ 1000000) (h : Own w0 F0 (row v 3 1 zs.length (intC zs) :: L) w) :
    Calls Tryz.prog 64 #[v] w (RetRow w0 F0 (row v 3 1 zs.length (intC zs) :: L) 3 1 zs.length (intC zs)) := by
  have hr := h.isRow
  rcases hr.2 with ⟨rfl, h0⟩ | ⟨g, cap, cur, rfl, _⟩
  · obtain rfl : zs = [] := List.eq_nil_of_length_eq_zero h0
    exact CloneI_none h
  · exact CloneI_some ⟨g, 0, none⟩ _ cap zs rfl hn (fun j u hu => hr.cells rfl j u hu) h
theorem CloneL_some (ad : Addr) (n c : Nat) (zs : List Acc) (hz : zs.length = n) (hn : n ≤ 1000000) (hc : ∀ j u, (logC zs)[j]? = some u → w.cell? (ad.add j) = some u) (h : Own w0 F0 L w) :
    Calls Tryz.prog 63 #[.slice (some ad) n c] w (RetRow w0 F0 L 63 5 n (logC zs)) := by
  obtain ⟨i0, hi0, hz0, hz1, hz2⟩ := info_parts Tryz.info_acc
  have h1 := Lib.hid ((h.new (.cells #[] 63)).blkRow (n := 0) (cap := 0) (size := 5) (xs := []) (Nat.le_refl _) (by decide) rfl rfl rfl)
  have H1 := Lib.hid (show 0 + n ≤ maxLen by unfold maxLen; omega)
  have H2 := Lib.hid (show (0 + n) * 40 ≤ 140737488355328 by omega)
  have hc2 : ∀ j u, (logC zs)[j]? = some u → (w.alloc (.cells #[] 63)).cell? (ad.add j) = some u := fun j u hu => by
    have := hc j u hu
    rw [World.cell?_alloc_lt _ _ _ (World.block_lt_of_cell? w _ this)]; exact this
  have Hc := Lib.hid hc2
  have Hz := Lib.hid (show (logC zs).length = n * 5 by rw [logC_len]; omega)
  have Ho := Lib.hid (show ∀ u ∈ logC zs, u.oneCell' = true from logC_one zs)
  have he : ∀ w : World, (binOp .eql 40 (.slice (some ad) n c) (.slice none 0 0)).run Tryz.prog w = .ok (.bool false) w := fun _ => by kernel_rfl
  clear hc hc2 hz
  go_enter Tryz.func63, Tryz.ntmps63
  go_wp2_with (at_builtin; refine wpList_append_row rfl (.tmp 5) (.tmp 6) 40 rfl 63 i0 _ Tryz.underlying40 hi0 hz0 hz1 hz2 rfl (by decide) rfl h1.out ad n c (logC zs) rfl Hz.out Hc.out Ho.out H1.out H2.out ?_; intro v' w' hO hg hn)
  go_ret
  exact ⟨_, rfl, by rw [Nat.zero_add] at hO; exact hO⟩
theorem CloneL_none (h : Own w0 F0 L w) :
    Calls Tryz.prog 63 #[.slice none 0 0] w (RetRow w0 F0 L 63 5 0 []) := by
  have he : ∀ w : World, (binOp .eql 40 (.slice none 0 0) (.slice none 0 0)).run Tryz.prog w = .ok (.bool true) w := fun _ => by kernel_rfl
  go_enter Tryz.func63, Tryz.ntmps63
  go_wp2
  go_ret
  exact ⟨_, rfl, h.rowNil⟩
theorem Words_any (hn : ws.length ≤ 1000000) (h : Own w0 F0 (memA T m ws l :: L) w) :
    Calls Tryz.prog 24 #[.pointer (some ⟨m, 0, none⟩)] w (RetRow w0 F0 (memA T m ws l :: L) 3 1 ws.length (intC ws)) := by
  obtain ⟨vw, vl, h1⟩ := h.mem
  have hm : w.cell? ⟨m, 0, none⟩ = some vw := h1.cell (i := 0) rfl
  have H := Lib.hid (CloneI_row ws hn h1.swap)
  go_enter Tryz.func24, Tryz.ntmps24
  go_wp2_with fail
  refine H.out.mono ?_
  rintro e w' ⟨v, rfl, hO⟩
  go_wp2_with fail
  go_ret
  exact ⟨_, rfl, hO.under fun _ _ h => (h.swap).toMem⟩
def zeroInts (n : Nat) : Array Value := madeCells #[.int .i64 0] n
theorem zeroInts_size (n : Nat) : (zeroInts n).size = n := by simp [zeroInts, madeCells]
theorem zeroInts_list (n : Nat) : (zeroInts n).toList = intC (List.replicate n 0) := by
  apply List.ext_getElem?
  intro i
  by_cases h : i < n
  · simp [zeroInts, madeCells, intC, h, Nat.mod_one]
  · have h1 : (zeroInts n).toList.length ≤ i := by simp [zeroInts_size]; omega
    have h2 : (intC (List.replicate n 0)).length ≤ i := by simp [intC]; omega
    rw [List.getElem?_eq_none h1, List.getElem?_eq_none h2]
theorem make_ints (n : Nat) (hn : n ≤ 1000000) (w : World) : (Instr.makeSlice 22 (.int .i64 n) (.int .i64 n)).run Tryz.prog w = .ok (.slice (some ⟨w.heap.size, 0, none⟩) n n) (w.alloc (.cells (zeroInts n) 3)) := by
  obtain ⟨i0, hi0, hz0, hz1, hz2⟩ := info_parts Tryz.info_int
  have := run_make (P := Tryz.prog) w 22 3 i0 _ Tryz.underlying22 hi0 hz0 .i64 .i64 n n (by omega) (by omega) (by rw [hz2]; omega) (by omega)
  rw [this, hz1]
  simp [zeroInts, Value.cells]
theorem New_any (n : Nat) (hn : n ≤ 10000) (h : Own w0 F0 L w) :
    Calls Tryz.prog 51 #[.int .i64 n] w (RetMem w0 F0 L 110 (List.replicate n 0) []) := by
  have h0 : (0 : Int) ≤ n := by omega
  have h1 : (n : Int) ≤ 10000 := by omega
  have hmk := fun w => make_ints n (by omega) w
  have h2 := Lib.hid ((h.new (.cells (zeroInts n) 3)).new (.cells #[.slice (some ⟨w.heap.size, 0, none⟩) n n, .slice none 0 0] 110))
  go_enter Tryz.func51, Tryz.ntmps51
  go_wp2_with fail
  go_ret
  refine ⟨_, rfl, ?_⟩
  rw [← World.size_alloc w (.cells (zeroInts n) 3)]
  have h3 := (h2.out.swap.blkRow (n := n) (cap := n) (size := 1) (xs := intC (List.replicate n 0)) (Nat.le_refl _) (by unfold maxLen; omega) (by simp [zeroInts_size]) (by rw [zeroInts_list, Nat.mul_one]; exact List.take_of_length_le (by simp [intC])) (by simp [intC])).swap
  exact (h3.under fun _ _ h => h.under fun _ _ h => h.rowNil).toMem' (ws := List.replicate n 0) (l := []) (by simp) rfl rfl rfl
end Go.Proofs.YtjohngpbggendaaGreat
end
