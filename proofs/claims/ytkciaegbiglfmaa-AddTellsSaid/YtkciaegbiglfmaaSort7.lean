/- symMerge over a row of pokes: what stands behind the search: the turn, and both halves. -/
import Derived.Test.YtkciaegbiglfmaaSort6
namespace Go.Proofs.Ytkciaegbiglfmaa
open Go.ChangeShapes Go.WideShapes Go.ChangeAt Go.RowKit Go.Shelf
set_option linter.unusedVariables false
variable {w0 w w' : World} {F0 : Nat → Prop} {L : List Asn}
theorem rotate_at (g cap n m b : Nat) (P A B Q : List Pk) (cmp : Value) (pa : Int) (ha : pa = P.length) (hA : 0 < A.length) (hB : 0 < B.length) (hn : (P ++ (A ++ B) ++ Q).length = n) (hm : n ≤ 1000000) (em : m = P.length + A.length) (eb : b = m + B.length) (h : Own w0 F0 (pkA g cap n (P ++ (A ++ B) ++ Q) :: L) w) :
    Calls Try.prog 82 #[.slice (some ⟨g, 0, none⟩) n cap, .int .i64 pa, .int .i64 m, .int .i64 b, cmp] w fun e w' =>
      e = .returned (.tuple #[]) ∧ Own w0 F0 (pkA g cap n (P ++ (B ++ A) ++ Q) :: L) w' := by
  subst ha; exact rotate_any g cap n m b P A B Q cmp hA hB hn hm em eb h
def Says (c : Bool) (p : Prop) : Prop := c = true ↔ p
/-- What symMerge does at all shorter ones. -/
def SymIH (g cap n : Nat) (L : List Asn) (w0 : World) (F0 : Nat → Prop) (N : Nat) : Prop :=
  ∀ (P A B Q : List Pk) (w : World) (a m b : Int), A.length + B.length < N → 0 < A.length → 0 < B.length → Srt A → Srt B → (P ++ (A ++ B) ++ Q).length = n → a = P.length → m = (P.length + A.length : Nat) → b = (P.length + A.length + B.length : Nat) →
    Own w0 F0 (pkA g cap n (P ++ (A ++ B) ++ Q) :: L) w →
    Calls Try.prog 74 #[.slice (some ⟨g, 0, none⟩) n cap, .int .i64 a, .int .i64 m, .int .i64 b, cmpF] w (OrdRet g cap n L w0 F0 P Q (Merged A B))
def leftmost : Code → Option Nat
  | .region k _ _ => some k
  | .seq a _ => leftmost a
  | _ => none
/-- The piece of a body that begins with a region. -/
def codeFrom (n : Nat) : Code → Option Code
  | .seq a b => if leftmost (.seq a b) = some n then some (.seq a b) else match codeFrom n a with
    | some c => some c
    | none => codeFrom n b
  | .block _ c => codeFrom n c
  | .scope c => codeFrom n c
  | .loop c => codeFrom n c
  | .cond _ a b => match codeFrom n a with
    | some c => some c
    | none => codeFrom n b
  | _ => none
noncomputable def sym41 : Code := ((Try.f74.body.bind (codeFrom 41)).getD .skip)
noncomputable def sym39 : Code := ((Try.f74.body.bind (codeFrom 39)).getD .skip)
set_option maxRecDepth 100000 in
set_option maxHeartbeats 1000000 in
theorem sym41_wp (g cap n a m b mid j en : Nat) (P A B Q D A1 A2 B1 B2 : List Pk) (sA : Srt A) (sB : Srt B) (hmx : n ≤ 1000000) (hbn : b ≤ n) (hmb : m < b) (ham : a < m) (hmb2 : mid < b) (ham2 : a < mid) (haj : a ≤ j) (hjm : j ≤ m) (hme : m ≤ en) (heb : en ≤ b)
    (Ea : Hid (a = P.length)) (Em : Hid (m = a + A.length)) (Eb : Hid (b = m + B.length)) (HD : Hid (D = P ++ (A ++ B) ++ Q)) (HDn : Hid (D.length = n)) (HIH : Hid (SymIH g cap n L w0 F0 (A.length + B.length))) (Hen : Hid (en = mid + m - j))
    (HA : Hid (A = A1 ++ A2)) (HB : Hid (B = B1 ++ B2)) (HlA1 : Hid (A1.length = j - a)) (HlA2 : Hid (A2.length = m - j)) (HlB1 : Hid (B1.length = en - m)) (HlB2 : Hid (B2.length = b - en))
    (Cr1 : Hid (∀ x ∈ A1, ∀ y ∈ B2, x.at_ ≤ y.at_)) (Cr2 : Hid (∀ x ∈ B1, ∀ y ∈ A2, x.at_ < y.at_)) (wr : World) (HO : Hid (Own w0 F0 (pkA g cap n (P ++ (A1 ++ B1) ++ (A2 ++ B2 ++ Q)) :: L) wr)) {u5 u6 u7 u8 u9 u10 u11 u12 u13 u14 u15 u16 u17 u19 u21 u22 u23 u25 u26 u27 u28 u29 u30 u31 u32 u33 u34 u35 u36 u37 u38 u39 u40 u41 u42 u43 u44 u45 u46 u47 u48 u49 u50 u51 u52 u53 u54 u55 u56 u57 u58 u59 u60 u61 u62 u63 u64 u65 u66 u67 u68 u69 u70 u71 u72 u73 u74 u75 u76 u77 u78 u79 u80 u81 u82 u83 u84 u85 u86 u87 u88 u89 u90 u91 u92 u93 u94 u95 u96 u97 u98 u99 u100 u101 u102 u103 u104 u105 u106 u107 u108 u109 u110 u111 u112 u113 u114 u115 u116 u117 u118 u119 u120 u121 u122 u123 u124 u125 u126 u127 u128 u129 u130 u131 u132 u133 u134 u135 u136 u137 u138 u139 u140 u141 u142 u143 u144 u145 u146 u147 u148 u149 u150 u151 u152 u153 u154 u155 u156 u157 u158 u159 u160 u161 u162 u163 u164 u165 u166 u167 u168 u169 u170 u171 u172 u173 u174 u175 u176 u177 u178 u179 u180 u181 u182 u183 u184 u185 u186 u187 u188 u189 u190 u191 u192 u193 u194 u195 u196 u197 u198 u199 u200 u201 u202 u203 u204 u205 u206 u207 u208 u209 u210 u211 u212 u213 u214 u215 u216 u217 u218 u219 : Value} :
    Code.wp Try.prog sym41 (bodyPost Try.prog Try.f74 (OrdRet g cap n L w0 F0 P Q (Merged A B))) ⟨List.toArray (.slice (some ⟨g, 0, none⟩) n cap :: .int .i64 a :: .int .i64 m :: .int .i64 b :: cmpF :: u5 :: u6 :: u7 :: u8 :: u9 :: u10 :: u11 :: u12 :: u13 :: u14 :: u15 :: u16 :: u17 :: .int .i64 mid :: u19 :: .int .i64 j :: u21 :: u22 :: u23 :: .int .i64 en :: u25 :: u26 :: u27 :: u28 :: u29 :: u30 :: u31 :: u32 :: u33 :: u34 :: u35 :: u36 :: u37 :: u38 :: u39 :: u40 :: u41 :: u42 :: u43 :: u44 :: u45 :: u46 :: u47 :: u48 :: u49 :: u50 :: u51 :: u52 :: u53 :: u54 :: u55 :: u56 :: u57 :: u58 :: u59 :: u60 :: u61 :: u62 :: u63 :: u64 :: u65 :: u66 :: u67 :: u68 :: u69 :: u70 :: u71 :: u72 :: u73 :: u74 :: u75 :: u76 :: u77 :: u78 :: u79 :: u80 :: u81 :: u82 :: u83 :: u84 :: u85 :: u86 :: u87 :: u88 :: u89 :: u90 :: u91 :: u92 :: u93 :: u94 :: u95 :: u96 :: u97 :: u98 :: u99 :: u100 :: u101 :: u102 :: u103 :: u104 :: u105 :: u106 :: u107 :: u108 :: u109 :: u110 :: u111 :: u112 :: u113 :: u114 :: u115 :: u116 :: u117 :: u118 :: u119 :: u120 :: u121 :: u122 :: u123 :: u124 :: u125 :: u126 :: u127 :: u128 :: u129 :: u130 :: u131 :: u132 :: u133 :: u134 :: u135 :: u136 :: u137 :: u138 :: u139 :: u140 :: u141 :: u142 :: u143 :: u144 :: u145 :: u146 :: u147 :: u148 :: u149 :: u150 :: u151 :: u152 :: u153 :: u154 :: u155 :: u156 :: u157 :: u158 :: u159 :: u160 :: u161 :: u162 :: u163 :: u164 :: u165 :: u166 :: u167 :: u168 :: u169 :: u170 :: u171 :: u172 :: u173 :: u174 :: u175 :: u176 :: u177 :: u178 :: u179 :: u180 :: u181 :: u182 :: u183 :: u184 :: u185 :: u186 :: u187 :: u188 :: u189 :: u190 :: u191 :: u192 :: u193 :: u194 :: u195 :: u196 :: u197 :: u198 :: u199 :: u200 :: u201 :: u202 :: u203 :: u204 :: u205 :: u206 :: u207 :: u208 :: u209 :: u210 :: u211 :: u212 :: u213 :: u214 :: u215 :: u216 :: u217 :: u218 :: u219 :: []), []⟩ wr := by
  conv => arg 2; whnf
  unfold cmpF
  go_upto_region 41 with fail
  go_cut [199] (fun vc wx => ∃ c, vc = .bool c ∧ Says c (a < j ∧ j < mid) ∧ wx = wr)
  case first =>
    by_cases h1 : a < j <;> by_cases h2 : j < mid
    all_goals
      go_wp2_with fail
      go_meet
      exact ⟨_, rfl, by simp [Says, h1, h2], rfl⟩
  case rest =>
  obtain ⟨c, rfl, hc, rfl⟩ := hcut
  have Hc := Lib.hid hc
  clear hc
  go_upto_if 199 with fail
  go_cut [] (fun wx => ∃ S1, Merged A1 B1 S1 ∧ Own w0 F0 (pkA g cap n (P ++ S1 ++ (A2 ++ B2) ++ Q) :: L) wx)
  case first =>
    cases c with
    | true =>
      have h1 := Hc.out.1 rfl
      have HR := Lib.hid (HIH.out P A1 B1 (A2 ++ B2 ++ Q) _ a j mid (by rw [HA.out, HB.out]; simp only [List.length_append]; have := HlA2.out; have := HlB2.out; have := Hen.out; omega) (by have := HlA1.out; omega) (by have := HlB1.out; have := Hen.out; omega)
        (by have := HA.out ▸ sA; exact this.left) (by have := HB.out ▸ sB; exact this.left) (by have e := HDn.out; rw [HD.out, HA.out, HB.out] at e; rw [← e]; simp only [List.length_append]; omega)
        (by have := Ea.out; omega) (by have := Ea.out; have := HlA1.out; omega) (by have := Ea.out; have := HlA1.out; have := HlB1.out; have := Hen.out; omega) HO.out)
      unfold cmpF at HR
      clear h1 HO
      go_wp2_with fail
      refine HR.out.mono ?_
      rintro e w1 ⟨rfl, S1, hS1, hO⟩
      clear HR
      go_wp2_with fail
      go_meet
      exact ⟨S1, hS1, by simpa only [List.append_assoc] using hO⟩
    | false =>
      have h1 : ¬ (a < j ∧ j < mid) := fun h => by have := Hc.out.2 h; cases this
      have hO : ∃ S1, Merged A1 B1 S1 ∧ Own w0 F0 (pkA g cap n (P ++ S1 ++ (A2 ++ B2) ++ Q) :: L) wc := by
        have hO := HO.out
        have l1 := HlA1.out
        have l2 := HlB1.out
        have l3 := Hen.out
        have sA1 := (HA.out ▸ sA).left
        have sB1 := (HB.out ▸ sB).left
        rcases Nat.lt_or_ge a j with h2 | h2
        · obtain rfl : B1 = [] := List.eq_nil_of_length_eq_zero (by omega)
          exact ⟨A1, Merged.nilR sA1, by simpa only [List.append_assoc, List.append_nil, List.nil_append] using hO⟩
        · obtain rfl : A1 = [] := List.eq_nil_of_length_eq_zero (by omega)
          exact ⟨B1, Merged.nilL sB1, by simpa only [List.append_assoc, List.append_nil, List.nil_append] using hO⟩
      have HO2 := Lib.hid hO
      clear h1 HO hO
      go_wp2_with fail
      go_meet
      exact HO2.out
  case rest =>
  obtain ⟨S1, hS1, hO⟩ := hcut
  have HS1 := Lib.hid hS1
  have HO := Lib.hid hO
  clear hS1 hO
  go_upto_region 43 with fail
  go_cut [213] (fun vc wx => ∃ c, vc = .bool c ∧ Says c (mid < en ∧ en < b) ∧ wx = wc)
  case first =>
    by_cases h1 : mid < en <;> by_cases h2 : en < b
    all_goals
      go_wp2_with fail
      go_meet
      exact ⟨_, rfl, by simp [Says, h1, h2], rfl⟩
  case rest =>
  obtain ⟨c, rfl, hc, rfl⟩ := hcut
  have Hc := Lib.hid hc
  clear hc
  cases c with
  | true =>
    have h1 := Hc.out.1 rfl
    have HR := Lib.hid (HIH.out (P ++ S1) A2 B2 Q _ mid en b (by rw [HA.out, HB.out]; simp only [List.length_append]; have := HlA1.out; have := HlB1.out; have := Hen.out; omega) (by have := HlA2.out; have := Hen.out; omega) (by have := HlB2.out; omega)
      (by have := HA.out ▸ sA; exact this.right) (by have := HB.out ▸ sB; exact this.right) (by have e := HDn.out; rw [HD.out, HA.out, HB.out] at e; rw [← e]; simp only [List.length_append]; have := HS1.out.2.2; omega)
      (by have := Ea.out; have := HlA1.out; have := HlB1.out; have := Hen.out; have := HS1.out.2.2; rw [List.length_append]; omega) (by have := Ea.out; have := HlA1.out; have := HlB1.out; have := HlA2.out; have := Hen.out; have := HS1.out.2.2; rw [List.length_append]; omega)
      (by have := Ea.out; have := HlA1.out; have := HlB1.out; have := HlA2.out; have := HlB2.out; have := Hen.out; have := HS1.out.2.2; rw [List.length_append]; omega) HO.out)
    unfold cmpF at HR
    clear h1 HO
    go_wp2_with fail
    refine HR.out.mono ?_
    rintro e w1 ⟨rfl, S2, hS2, hO⟩
    clear HR
    go_wp2_with fail
    go_end0
    refine ⟨rfl, S1 ++ S2, ?_, by simpa only [List.append_assoc] using hO⟩
    have := Merged.two (HA.out ▸ sA) (HB.out ▸ sB) Cr1.out Cr2.out HS1.out hS2
    rw [← HA.out, ← HB.out] at this
    exact this
  | false =>
    have h1 : ¬ (mid < en ∧ en < b) := fun h => by have := Hc.out.2 h; cases this
    have hO : ∃ S2, Merged A2 B2 S2 ∧ Own w0 F0 (pkA g cap n (P ++ S1 ++ S2 ++ Q) :: L) wc := by
      have hO := HO.out
      have l1 := HlA2.out
      have l2 := HlB2.out
      have l3 := Hen.out
      have sA2 := (HA.out ▸ sA).right
      have sB2 := (HB.out ▸ sB).right
      rcases Nat.lt_or_ge mid en with h2 | h2
      · obtain rfl : B2 = [] := List.eq_nil_of_length_eq_zero (by omega)
        exact ⟨A2, Merged.nilR sA2, by simpa only [List.append_assoc, List.append_nil, List.nil_append] using hO⟩
      · obtain rfl : A2 = [] := List.eq_nil_of_length_eq_zero (by omega)
        exact ⟨B2, Merged.nilL sB2, by simpa only [List.append_assoc, List.append_nil, List.nil_append] using hO⟩
    have HO2 := Lib.hid hO
    clear h1 HO hO
    go_wp2_with fail
    go_end0
    obtain ⟨S2, hS2, hO⟩ := HO2.out
    refine ⟨rfl, S1 ++ S2, ?_, by simpa only [List.append_assoc] using hO⟩
    have := Merged.two (HA.out ▸ sA) (HB.out ▸ sB) Cr1.out Cr2.out HS1.out hS2
    rw [← HA.out, ← HB.out] at this
    exact this

set_option maxRecDepth 100000 in
set_option maxHeartbeats 1000000 in
theorem sym39_wp (g cap n a m b mid j en : Nat) (P A B Q D A1 A2 B1 B2 : List Pk) (sA : Srt A) (sB : Srt B) (hmx : n ≤ 1000000) (hbn : b ≤ n) (hmb : m < b) (ham : a < m) (hmb2 : mid < b) (ham2 : a < mid) (haj : a ≤ j) (hjm : j ≤ m) (hme : m ≤ en) (heb : en ≤ b)
    (Ea : Hid (a = P.length)) (Em : Hid (m = a + A.length)) (Eb : Hid (b = m + B.length)) (HD : Hid (D = P ++ (A ++ B) ++ Q)) (HDn : Hid (D.length = n)) (HIH : Hid (SymIH g cap n L w0 F0 (A.length + B.length))) (Hen : Hid (en = mid + m - j))
    (HA : Hid (A = A1 ++ A2)) (HB : Hid (B = B1 ++ B2)) (HlA1 : Hid (A1.length = j - a)) (HlA2 : Hid (A2.length = m - j)) (HlB1 : Hid (B1.length = en - m)) (HlB2 : Hid (B2.length = b - en))
    (Cr1 : Hid (∀ x ∈ A1, ∀ y ∈ B2, x.at_ ≤ y.at_)) (Cr2 : Hid (∀ x ∈ B1, ∀ y ∈ A2, x.at_ < y.at_)) (wr : World) (HO : Hid (Own w0 F0 (pkA g cap n (P ++ A1 ++ (A2 ++ B1) ++ (B2 ++ Q)) :: L) wr)) {u5 u6 u7 u8 u9 u10 u11 u12 u13 u14 u15 u16 u17 u19 u21 u22 u23 u25 u26 u27 u28 u29 u30 u31 u32 u33 u34 u35 u36 u37 u38 u39 u40 u41 u42 u43 u44 u45 u46 u47 u48 u49 u50 u51 u52 u53 u54 u55 u56 u57 u58 u59 u60 u61 u62 u63 u64 u65 u66 u67 u68 u69 u70 u71 u72 u73 u74 u75 u76 u77 u78 u79 u80 u81 u82 u83 u84 u85 u86 u87 u88 u89 u90 u91 u92 u93 u94 u95 u96 u97 u98 u99 u100 u101 u102 u103 u104 u105 u106 u107 u108 u109 u110 u111 u112 u113 u114 u115 u116 u117 u118 u119 u120 u121 u122 u123 u124 u125 u126 u127 u128 u129 u130 u131 u132 u133 u134 u135 u136 u137 u138 u139 u140 u141 u142 u143 u144 u145 u146 u147 u148 u149 u150 u151 u152 u153 u154 u155 u156 u157 u158 u159 u160 u161 u162 u163 u164 u165 u166 u167 u168 u169 u170 u171 u172 u173 u174 u175 u176 u177 u178 u179 u180 u181 u182 u183 u184 u185 u186 u187 u188 u189 u190 u191 u192 u193 u194 u195 u196 u197 u198 u199 u200 u201 u202 u203 u204 u205 u206 u207 u208 u209 u210 u211 u212 u213 u214 u215 u216 u217 u218 u219 : Value} :
    Code.wp Try.prog sym39 (bodyPost Try.prog Try.f74 (OrdRet g cap n L w0 F0 P Q (Merged A B))) ⟨List.toArray (.slice (some ⟨g, 0, none⟩) n cap :: .int .i64 a :: .int .i64 m :: .int .i64 b :: cmpF :: u5 :: u6 :: u7 :: u8 :: u9 :: u10 :: u11 :: u12 :: u13 :: u14 :: u15 :: u16 :: u17 :: .int .i64 mid :: u19 :: .int .i64 j :: u21 :: u22 :: u23 :: .int .i64 en :: u25 :: u26 :: u27 :: u28 :: u29 :: u30 :: u31 :: u32 :: u33 :: u34 :: u35 :: u36 :: u37 :: u38 :: u39 :: u40 :: u41 :: u42 :: u43 :: u44 :: u45 :: u46 :: u47 :: u48 :: u49 :: u50 :: u51 :: u52 :: u53 :: u54 :: u55 :: u56 :: u57 :: u58 :: u59 :: u60 :: u61 :: u62 :: u63 :: u64 :: u65 :: u66 :: u67 :: u68 :: u69 :: u70 :: u71 :: u72 :: u73 :: u74 :: u75 :: u76 :: u77 :: u78 :: u79 :: u80 :: u81 :: u82 :: u83 :: u84 :: u85 :: u86 :: u87 :: u88 :: u89 :: u90 :: u91 :: u92 :: u93 :: u94 :: u95 :: u96 :: u97 :: u98 :: u99 :: u100 :: u101 :: u102 :: u103 :: u104 :: u105 :: u106 :: u107 :: u108 :: u109 :: u110 :: u111 :: u112 :: u113 :: u114 :: u115 :: u116 :: u117 :: u118 :: u119 :: u120 :: u121 :: u122 :: u123 :: u124 :: u125 :: u126 :: u127 :: u128 :: u129 :: u130 :: u131 :: u132 :: u133 :: u134 :: u135 :: u136 :: u137 :: u138 :: u139 :: u140 :: u141 :: u142 :: u143 :: u144 :: u145 :: u146 :: u147 :: u148 :: u149 :: u150 :: u151 :: u152 :: u153 :: u154 :: u155 :: u156 :: u157 :: u158 :: u159 :: u160 :: u161 :: u162 :: u163 :: u164 :: u165 :: u166 :: u167 :: u168 :: u169 :: u170 :: u171 :: u172 :: u173 :: u174 :: u175 :: u176 :: u177 :: u178 :: u179 :: u180 :: u181 :: u182 :: u183 :: u184 :: u185 :: u186 :: u187 :: u188 :: u189 :: u190 :: u191 :: u192 :: u193 :: u194 :: u195 :: u196 :: u197 :: u198 :: u199 :: u200 :: u201 :: u202 :: u203 :: u204 :: u205 :: u206 :: u207 :: u208 :: u209 :: u210 :: u211 :: u212 :: u213 :: u214 :: u215 :: u216 :: u217 :: u218 :: u219 :: []), []⟩ wr := by
  conv => arg 2; whnf
  unfold cmpF
  go_upto_region 39 with fail
  go_cut [185] (fun vc wx => ∃ c, vc = .bool c ∧ Says c (j < m ∧ m < en) ∧ wx = wr)
  case first =>
    by_cases h1 : j < m <;> by_cases h2 : m < en
    all_goals
      go_wp2_with fail
      go_meet
      exact ⟨_, rfl, by simp [Says, h1, h2], rfl⟩
  case rest =>
  obtain ⟨c, rfl, hc, rfl⟩ := hcut
  have Hc := Lib.hid hc
  clear hc
  go_upto_if 185 with fail
  rename_i hk
  go_cut [] (fun wx => Own w0 F0 (pkA g cap n (P ++ (A1 ++ B1) ++ (A2 ++ B2 ++ Q)) :: L) wx)
  case first =>
    cases c with
    | true =>
      have h1 := Hc.out.1 rfl
      have HR := Lib.hid (rotate_at g cap n m en (P ++ A1) A2 B1 (B2 ++ Q) cmpF j (by have := HlA1.out; have := Ea.out; rw [List.length_append]; omega) (by have := HlA2.out; omega) (by have := HlB1.out; omega)
        (by have e := HDn.out; rw [HD.out, HA.out, HB.out] at e; rw [← e]; simp only [List.length_append]; omega) hmx (by have := HlA1.out; have := HlA2.out; have := Ea.out; rw [List.length_append]; omega) (by have := HlB1.out; omega) HO.out)
      unfold cmpF at HR
      clear h1 HO
      go_wp2_with fail
      refine HR.out.mono ?_
      rintro e w1 ⟨rfl, hO⟩
      clear HR
      go_wp2_with fail
      go_meet
      simpa only [List.append_assoc] using hO
    | false =>
      have h1 : ¬ (j < m ∧ m < en) := fun h => by have := Hc.out.2 h; cases this
      have hO : Own w0 F0 (pkA g cap n (P ++ (A1 ++ B1) ++ (A2 ++ B2 ++ Q)) :: L) wc := by
        have hO := HO.out
        have l1 := HlA2.out
        have l2 := HlB1.out
        have e : A2 ++ B1 = B1 ++ A2 := by
          rcases Nat.lt_or_ge j m with h2 | h2
          · have : B1 = [] := List.eq_nil_of_length_eq_zero (by omega)
            subst this; simp
          · have : A2 = [] := List.eq_nil_of_length_eq_zero (by omega)
            subst this; simp
        rw [e] at hO
        simpa only [List.append_assoc] using hO
      have HO2 := Lib.hid hO
      clear h1 HO hO
      go_wp2_with fail
      go_meet
      exact HO2.out
  case rest =>
  exact hk _ _ (sym41_wp g cap n a m b mid j en P A B Q D A1 A2 B1 B2 sA sB hmx hbn hmb ham hmb2 ham2 haj hjm hme heb Ea Em Eb HD HDn HIH Hen HA HB HlA1 HlA2 HlB1 HlB2 Cr1 Cr2 _ (Lib.hid hcut))
end Go.Proofs.Ytkciaegbiglfmaa
