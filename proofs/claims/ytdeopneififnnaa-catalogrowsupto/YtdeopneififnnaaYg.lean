/- CatalogRows: the walk. -/
import Derived.Test.YtdeopneififnnaaYf
import Derived.Test.YtdeopneififnnaaYd
import Derived.Test.YtdeopneififnnaaWd
import Derived.Test.YtdeopneififnnaaRa
namespace Go.Proofs.Ytdeopneififnnaa
open Go.RowKit
set_option maxRecDepth 100000
set_option linter.unusedVariables false
set_option linter.unusedSimpArgs false

theorem place_same {s : ByteArray} {C : List Cn} {r r' : Int} (h : PlaceAt s C r) (h' : PlaceAt s C r') : r = r' := by
  rcases h with ⟨i, x, hi, hx, hf, rfl⟩ | ⟨hn, rfl⟩ <;> rcases h' with ⟨j, y, hj, hy, hg, rfl⟩ | ⟨hm, rfl⟩
  · rcases Nat.lt_trichotomy i j with h | h | h
    · exact absurd hx (hg i x h hi)
    · rw [h]
    · exact absurd hy (hf j y h hj)
  · exact absurd hx (hm x (List.mem_of_getElem? hi))
  · exact absurd hy (hn y (List.mem_of_getElem? hj))
  · rfl
theorem TabIn.any {P : Nat → Prop} {w : World} {t : Tb} (h : TabIn P w t) : TabIn (fun _ => True) w t := h.mono (fun _ _ => trivial)
/-- What is told of a row. -/
def Tells (R : List Vl) (t : Tb) (k : Int) : Prop := (k = 31 ∧ t.key = zeroT.key ∧ ∀ s, ¬ GoodR R s) ∨ (k = 0 ∧ GoodR R t)
theorem tells_of {R : List Vl} {w w' : World} {e : Ending} (h : ReadR R w e w') : Fr w w' (fun _ => False) ∧ ∃ (t : Tb) (k : Int), e = .returned (.tuple #[t.agg, .int .i64 k]) ∧ Tells R t k ∧ TabIn (fun _ => True) w' t := by
  obtain ⟨f, ⟨rfl, hno⟩ | ⟨s, rfl, hs, ht⟩⟩ := h
  · exact ⟨f, zeroT, 31, rfl, .inl ⟨rfl, rfl, hno⟩, (zero_tab w').any⟩
  · exact ⟨f, s, 0, rfl, .inr ⟨rfl, hs⟩, ht.any⟩
theorem Tells.same {R : List Vl} {t t' : Tb} {k k' : Int} (h : Tells R t k) (h' : Tells R t' k') : k = k' ∧ t.key = t'.key := by
  rcases h with ⟨rfl, hk, hno⟩ | ⟨rfl, hg⟩ <;> rcases h' with ⟨rfl, hk', hno'⟩ | ⟨rfl, hg'⟩
  · exact ⟨rfl, hk.trans hk'.symm⟩
  · exact absurd hg' (hno _)
  · exact absurd hg (hno' _)
  · exact ⟨rfl, rowP_inj (hg.1.trans hg'.1.symm)⟩
theorem bad_row {R : List Vl} {n : Nat} (hn : R.length = n) (hno : n < 4 ∨ (4 ≤ n ∧ ((at_ R 3).int < 0 ∨ 8 < (at_ R 3).int ∨ (n : Int) < 4 + 2 * (at_ R 3).int))) : ∀ s, ¬ GoodR R s := fun s hg => by
  have h1 := good_cols hg
  have h2 := good_count hg
  have h3 := good_len hg
  rcases hno with h | ⟨_, h | h | h⟩
  · omega
  · omega
  · omega
  · rw [h2] at h
    omega
theorem at_in {R : List Vl} (h : ∀ x ∈ R, In64 x.int) : In64 (at_ R 0).int := by
  unfold at_
  cases R with
  | nil => unfold In64; exact ⟨by decide, by decide⟩
  | cons x L => exact h x (by simp)
theorem ok_row {w : World} {a : Option Addr} {n : Nat} {R : List Vl} {P : Nat → Prop} (hR : ValsIn P w a R) (hn : R.length = n) (hno : ¬ (n < 4 ∨ (4 ≤ n ∧ ((at_ R 3).int < 0 ∨ 8 < (at_ R 3).int ∨ (n : Int) < 4 + 2 * (at_ R 3).int)))) : ∃ g off cnt : Nat, a = some ⟨g, off, none⟩ ∧ 4 ≤ n ∧ (at_ R 3).int = (cnt : Int) ∧ cnt ≤ 8 ∧ 4 + 2 * cnt ≤ n := by
  have h4 : 4 ≤ n := by omega
  obtain ⟨g, off, ha, _⟩ := hR 0 _ (at_eq (by omega))
  exact ⟨g, off, (at_ R 3).int.toNat, ha, h4, by omega, by omega, by omega⟩
theorem read_all {P : Nat → Prop} {w : World} (a : Option Addr) (n c : Nat) (R : List Vl) (hR : ValsIn P w a R) (hn : R.length = n) (hc : n ≤ c) (hb : n ≤ 1048576) (h64 : ∀ x ∈ R, In64 x.int) : Calls Try.prog 24 #[.slice a n c] w (ReadR R w) := by
  by_cases hno : n < 4 ∨ (4 ≤ n ∧ ((at_ R 3).int < 0 ∨ 8 < (at_ R 3).int ∨ (n : Int) < 4 + 2 * (at_ R 3).int))
  · exact read_no a n c R (bad_row hn hno) (fun W hf => guess_no a n c R (hR.fr hf (fun _ _ h => h)) hn (by omega) hno)
  · obtain ⟨g, off, cnt, rfl, h4, h3, h8, hl⟩ := ok_row hR hn hno
    exact read_yes g off n c R hR hn hc (by omega) cnt (by omega) h4 h3 h8 hl (at_in h64)
theorem rread_all {P : Nat → Prop} {w : World} (a : Option Addr) (n c : Nat) (R : List Vl) (hR : ValsIn P w a R) (hn : R.length = n) (hc : n ≤ c) (hb : n ≤ 1048576) (h64 : ∀ x ∈ R, In64 x.int) : Calls Try.prog 25 #[.slice a n c] w (ReadR R w) := by
  by_cases hno : n < 4 ∨ (4 ≤ n ∧ ((at_ R 3).int < 0 ∨ 8 < (at_ R 3).int ∨ (n : Int) < 4 + 2 * (at_ R 3).int))
  · exact rread_no a n c R hR hn (by omega) (at_in h64) hno
  · obtain ⟨g, off, cnt, rfl, h4, h3, h8, hl⟩ := ok_row hR hn hno
    exact rread_yes g off n c R hR hn hc (by omega) cnt (by omega) h4 h3 h8 hl (at_in h64)
/-- The table's box, and a place. -/
def SP (B : Nat) (t : Tb) (gp j : Nat) (r : Int) (U : World) : Prop := BoxT U B t ∧ U.cell? ⟨gp, j, none⟩ = some (.int .i64 r)
theorem SP.fr {B gp j : Nat} {t : Tb} {r : Int} {U V : World} (h : SP B t gp j r U) (hf : Fr U V (fun _ => False)) : SP B t gp j r V := ⟨h.1.fr hf (fun h => h), hf.cell (fun h => h) h.2⟩
theorem SP.cells {B gp j : Nat} {t : Tb} {r : Int} {U : World} (h : SP B t gp j r U) : (U.cell? ⟨B, 0, none⟩ = some (.int .i64 t.id) ∧ U.cell? ⟨B, 1, none⟩ = some (.string t.name) ∧ U.cell? ⟨B, 2, none⟩ = some (.slice t.ca t.cn t.cc) ∧ U.cell? ⟨B, 3, none⟩ = some (.slice t.ka t.kn t.kc) ∧ U.cell? ⟨B, 4, none⟩ = some (.bool t.ix)) ∧ U.cell? ⟨gp, j, none⟩ = some (.int .i64 r) := ⟨h.1.cells, h.2⟩
/-- The two tables' boxes. -/
def SQ (B D : Nat) (t s : Tb) (U : World) : Prop := BoxT U B t ∧ BoxD U D s
theorem SQ.fr {B D : Nat} {t s : Tb} {U V : World} (h : SQ B D t s U) (hf : Fr U V (fun _ => False)) : SQ B D t s V := ⟨h.1.fr hf (fun h => h), h.2.fr hf (fun h => h)⟩
theorem SQ.cells {B D : Nat} {t s : Tb} {U : World} (h : SQ B D t s U) : (U.cell? ⟨B, 0, none⟩ = some (.int .i64 t.id) ∧ U.cell? ⟨B, 1, none⟩ = some (.string t.name) ∧ U.cell? ⟨B, 2, none⟩ = some (.slice t.ca t.cn t.cc) ∧ U.cell? ⟨B, 3, none⟩ = some (.slice t.ka t.kn t.kc) ∧ U.cell? ⟨B, 4, none⟩ = some (.bool t.ix)) ∧ U.cell? ⟨D, 0, none⟩ = some (.int .i64 s.id) ∧ U.cell? ⟨D, 1, none⟩ = some (.string s.name) ∧ U.cell? ⟨D, 2, none⟩ = some (.slice s.ca s.cn s.cc) ∧ U.cell? ⟨D, 3, none⟩ = some (.slice s.ka s.kn s.kc) ∧ U.cell? ⟨D, 4, none⟩ = some (.bool s.ix) := ⟨h.1.cells, h.2.cells⟩
set_option maxHeartbeats 16000000 in
theorem rows_walk {w : World} (id : Int) (nm : ByteArray) (ca : Option Addr) (cn cc : Nat) (C : List Cn) (ka : Option Addr) (kn kc : Nat) (K : List ByteArray) (ix : Bool) (ht : TabIn (fun _ => True) w ⟨id, nm, ca, cn, cc, C, ka, kn, kc, K, ix⟩) (a : Option Addr) (n c : Nat) (R : List Vl) (hR : ValsIn (fun _ => True) w a R) (hn : R.length = n) (hc : n ≤ c) (hb : n ≤ 1048576) (h64 : ∀ x ∈ R, In64 x.int) (s : ByteArray) :
    Calls Try.prog 4 #[(⟨id, nm, ca, cn, cc, C, ka, kn, kc, K, ix⟩ : Tb).agg, .slice a n c, .string s] w fun e w' => e = .returned (.bool true) ∧ Fr w w' (fun _ => False) := by
  obtain ⟨B0, hB0⟩ : ∃ B0, B0 = w.heap.size := ⟨_, rfl⟩
  obtain ⟨w0, hw0⟩ : ∃ w0, w0 = w.alloc (.cells #[.int .i64 id, .string nm, .slice ca cn cc, .slice ka kn kc, .bool ix] 30) := ⟨_, rfl⟩
  have b0 : BoxT w0 B0 ⟨id, nm, ca, cn, cc, C, ka, kn, kc, K, ix⟩ := by rw [hw0, hB0]; exact heap_alloc_new w _
  have f0 : Fr w w0 (fun _ => False) := by rw [hw0]; exact Fr.alloc w _ _
  have HT0 := hide (ht.fr f0 (fun _ _ h => h))
  have HR0 := hide (hR.fr f0 (fun _ _ h => h))
  have HB := hide b0
  have HF0 := hide f0
  have HAW := hide (awake_any w0)
  have HW := hide hw0
  have HB0 := hide hB0
  have HN := hide hn
  have H64 := hide h64
  have hkb : kn ≤ 1048576 := ht.kb
  clear ht hR b0 f0 hw0 hB0 hn h64
  unfold Tb.agg
  dsimp only
  go_enter Try.func4, Try.ntmps4
  go_wp2_with (rw [← HW.out, ← HB0.out]; clear HW)
  refine HAW.out.mono ?_
  rintro e w1 ⟨rfl, f1⟩
  have HF1 := hide (HF0.out.two f1)
  have HT1 := hide (HT0.out.fr f1 (fun _ _ h => h))
  have HR1 := hide (HR0.out.fr f1 (fun _ _ h => h))
  have HB1 := hide (HB.out.fr f1 (fun h => h))
  clear HAW f1 HF0 HT0 HB HR0
  go_wp2_with fail
  refine wp_region_K (fun _ => true) (fun U : World => BoxT U B0 ⟨id, nm, ca, cn, cc, C, ka, kn, kc, K, ix⟩) (by kernel_rfl) ?_
  have fd := Fr.drew w1 (fun _ => False)
  have hS := HB1.out.fr fd (fun h => h)
  refine wpAnyK_takeTo 0 (some 19) (.agg #[.int .i64 id, .string nm, .slice ca cn cc, .slice ka kn kc, .bool ix]) [1, 3, 4, 5, 6, 7, 8, 9, 10, 11, 12, 13, 14, 15] rfl rfl (by kernel_rfl) (by kernel_rfl) (by kernel_rfl) (by kernel_rfl) (fun _ _ _ h => h) hS (Or.inl ⟨rfl, fun w1 hw1 => by obtain ⟨q0, q1, q2, q3, q4⟩ := BoxT.cells hw1; dsimp only at q0 q1 q2 q3 q4; go_simp⟩) ?_
  simp only [Act.put, List.setIfInBounds_toArray, List.set_cons_zero, List.set_cons_succ]
  refine wpAnyK_takeTo 2 (some 21) (.agg #[.int .i64 id, .string nm, .slice ca cn cc, .slice ka kn kc, .bool ix]) [3, 4, 5, 6, 7, 8, 9, 10, 11, 12, 13, 14, 15] rfl rfl (by kernel_rfl) (by kernel_rfl) (by kernel_rfl) (by kernel_rfl) (fun _ _ _ h => h) hS (Or.inl ⟨rfl, fun w1 hw1 => by obtain ⟨q0, q1, q2, q3, q4⟩ := BoxT.cells hw1; dsimp only at q0 q1 q2 q3 q4; go_simp⟩) ?_
  simp only [Act.put, List.setIfInBounds_toArray, List.set_cons_zero, List.set_cons_succ]
  refine wpAnyK_one (i := 1) (by kernel_rfl) rfl rfl ?_
  refine wp_call_to (some 20) rfl 17 #[.agg #[.int .i64 id, .string nm, .slice ca cn cc, .slice ka kn kc, .bool ix]] (by go_simp) (check_any ⟨id, nm, ca, cn, cc, C, ka, kn, kc, K, ix⟩ (HT1.out.fr fd (fun _ _ h => h))) ?_
  rintro e V1 ⟨rfl, g1⟩
  replace hS := hS.fr g1 (fun h => h)
  refine ⟨_, rfl, fun _ => hS, ?_⟩
  try dsimp only
  simp only [Act.put, List.setIfInBounds_toArray, List.set_cons_zero, List.set_cons_succ]
  have g1 := fd.two g1
  refine wpAnyK_one (i := 3) (by kernel_rfl) rfl rfl ?_
  refine wp_call_to (some 22) rfl 16 #[.agg #[.int .i64 id, .string nm, .slice ca cn cc, .slice ka kn kc, .bool ix]] (by go_simp) (plain_any ⟨id, nm, ca, cn, cc, C, ka, kn, kc, K, ix⟩ V1) ?_
  rintro e V2 ⟨rfl, g2⟩
  replace hS := hS.fr g2 (fun h => h)
  refine ⟨_, rfl, fun _ => hS, ?_⟩
  try unfold Tb.agg
  try dsimp only
  simp only [Act.put, List.setIfInBounds_toArray, List.set_cons_zero, List.set_cons_succ]
  have g2 := g1.two g2
  refine wpAnyK_one (i := 4) (by kernel_rfl) rfl rfl ?_
  refine wp_call_to (some 23) rfl 18 #[.agg #[.int .i64 id, .string nm, .slice ca cn cc, .slice ka kn kc, .bool ix]] (by go_simp) (check_ref id nm ca cn cc C ka kn kc K ix (HT1.out.fr g2 (fun _ _ h => h))) ?_
  rintro e V3 ⟨rfl, g3⟩
  replace hS := hS.fr g3 (fun h => h)
  refine ⟨_, rfl, fun _ => hS, ?_⟩
  try dsimp only
  simp only [Act.put, List.setIfInBounds_toArray, List.set_cons_zero, List.set_cons_succ]
  have g3 := g2.two g3
  refine wpAnyK_takeTo 5 (some 24) (.bool false) [6, 7, 8, 9, 10, 11, 12, 13, 14, 15] rfl rfl (by kernel_rfl) (by kernel_rfl) (by kernel_rfl) (by kernel_rfl) (fun _ _ _ h => h) hS (Or.inl ⟨rfl, fun w1 hw1 => by obtain ⟨q0, q1, q2, q3, q4⟩ := BoxT.cells hw1; dsimp only at q0 q1 q2 q3 q4; go_simp⟩) ?_
  simp only [Act.put, List.setIfInBounds_toArray, List.set_cons_zero, List.set_cons_succ]
  refine wpAnyK_takeTo 6 (some 25) (.bool false) [7, 8, 9, 10, 11, 12, 13, 14, 15] rfl rfl (by kernel_rfl) (by kernel_rfl) (by kernel_rfl) (by kernel_rfl) (fun _ _ _ h => h) hS (Or.inl ⟨rfl, fun w1 hw1 => by obtain ⟨q0, q1, q2, q3, q4⟩ := BoxT.cells hw1; dsimp only at q0 q1 q2 q3 q4; go_simp⟩) ?_
  simp only [Act.put, List.setIfInBounds_toArray, List.set_cons_zero, List.set_cons_succ]
  refine wpAnyK_takeTo 7 (some 26) (.agg #[.int .i64 id, .string nm, .slice ca cn cc, .slice ka kn kc, .bool ix]) [9, 11, 13, 14, 15] rfl rfl (by kernel_rfl) (by kernel_rfl) (by kernel_rfl) (by kernel_rfl) (fun _ _ _ h => h) hS (Or.inl ⟨rfl, fun w1 hw1 => by obtain ⟨q0, q1, q2, q3, q4⟩ := BoxT.cells hw1; dsimp only at q0 q1 q2 q3 q4; go_simp⟩) ?_
  simp only [Act.put, List.setIfInBounds_toArray, List.set_cons_zero, List.set_cons_succ]
  refine wpAnyK_takeTo 8 (some 27) (.string s) [9, 11, 13, 14, 15] rfl rfl (by kernel_rfl) (by kernel_rfl) (by kernel_rfl) (by kernel_rfl) (fun _ _ _ h => h) hS (Or.inl ⟨rfl, fun w1 hw1 => by obtain ⟨q0, q1, q2, q3, q4⟩ := BoxT.cells hw1; dsimp only at q0 q1 q2 q3 q4; go_simp⟩) ?_
  simp only [Act.put, List.setIfInBounds_toArray, List.set_cons_zero, List.set_cons_succ]
  refine wpAnyK_takeTo 10 (some 29) (.agg #[.int .i64 id, .string nm, .slice ca cn cc, .slice ka kn kc, .bool ix]) [11, 13, 14, 15] rfl rfl (by kernel_rfl) (by kernel_rfl) (by kernel_rfl) (by kernel_rfl) (fun _ _ _ h => h) hS (Or.inl ⟨rfl, fun w1 hw1 => by obtain ⟨q0, q1, q2, q3, q4⟩ := BoxT.cells hw1; dsimp only at q0 q1 q2 q3 q4; go_simp⟩) ?_
  simp only [Act.put, List.setIfInBounds_toArray, List.set_cons_zero, List.set_cons_succ]
  refine wpAnyK_takeTo 12 (some 31) (.string s) [13, 14, 15] rfl rfl (by kernel_rfl) (by kernel_rfl) (by kernel_rfl) (by kernel_rfl) (fun _ _ _ h => h) hS (Or.inl ⟨rfl, fun w1 hw1 => by obtain ⟨q0, q1, q2, q3, q4⟩ := BoxT.cells hw1; dsimp only at q0 q1 q2 q3 q4; go_simp⟩) ?_
  simp only [Act.put, List.setIfInBounds_toArray, List.set_cons_zero, List.set_cons_succ]
  refine wpAnyK_one (i := 9) (by kernel_rfl) rfl rfl ?_
  refine wp_call_to (some 28) rfl 19 #[.agg #[.int .i64 id, .string nm, .slice ca cn cc, .slice ka kn kc, .bool ix], .string s] (by go_simp) (column_any ⟨id, nm, ca, cn, cc, C, ka, kn, kc, K, ix⟩ (HT1.out.fr g3 (fun _ _ h => h)).cols HT1.out.cn HT1.out.cb s) ?_
  rintro e V4 ⟨r1, rfl, hr1, g4⟩
  replace hS := hS.fr g4 (fun h => h)
  refine ⟨_, rfl, fun _ => hS, ?_⟩
  simp only [Act.put, List.setIfInBounds_toArray, List.set_cons_zero, List.set_cons_succ]
  have g4 := g3.two g4
  refine wpAnyK_one (i := 11) (by kernel_rfl) rfl rfl ?_
  refine wp_call_to (some 30) rfl 16 #[.agg #[.int .i64 id, .string nm, .slice ca cn cc, .slice ka kn kc, .bool ix]] (by go_simp) (plain_any ⟨id, nm, ca, cn, cc, C, ka, kn, kc, K, ix⟩ V4) ?_
  rintro e V5 ⟨rfl, g5⟩
  replace hS := hS.fr g5 (fun h => h)
  refine ⟨_, rfl, fun _ => hS, ?_⟩
  try unfold Tb.agg
  try dsimp only
  simp only [Act.put, List.setIfInBounds_toArray, List.set_cons_zero, List.set_cons_succ]
  have g5 := g4.two g5
  refine wpAnyK_one (i := 13) (by kernel_rfl) rfl rfl ?_
  refine wp_call_to (some 32) rfl 20 #[.agg #[.int .i64 id, .string nm, .slice ca cn cc, .slice ka kn kc, .bool ix], .string s] (by go_simp) (place_ref ⟨id, nm, ca, cn, cc, C, ka, kn, kc, K, ix⟩ (HT1.out.fr g5 (fun _ _ h => h)).cols HT1.out.cn HT1.out.cb s) ?_
  rintro e V6 ⟨r2, rfl, hr2, g6⟩
  replace hS := hS.fr g6 (fun h => h)
  refine ⟨_, rfl, fun _ => hS, ?_⟩
  simp only [Act.put, List.setIfInBounds_toArray, List.set_cons_zero, List.set_cons_succ]
  have g6 := g5.two g6
  obtain rfl : r1 = r2 := place_same hr1 hr2
  refine wpAnyK_takeTo 14 (some 33) (.bool false) [15] rfl rfl (by kernel_rfl) (by kernel_rfl) (by kernel_rfl) (by kernel_rfl) (fun _ _ _ h => h) hS (Or.inl ⟨rfl, fun w1 hw1 => by obtain ⟨q0, q1, q2, q3, q4⟩ := BoxT.cells hw1; dsimp only at q0 q1 q2 q3 q4; go_simp⟩) ?_
  simp only [Act.put, List.setIfInBounds_toArray, List.set_cons_zero, List.set_cons_succ]
  refine wpAnyK_takeTo 15 (some 34) (.bool false) [] rfl rfl (by kernel_rfl) (by kernel_rfl) (by kernel_rfl) (by kernel_rfl) (fun _ _ _ h => h) hS (Or.inl ⟨rfl, fun w1 hw1 => by obtain ⟨q0, q1, q2, q3, q4⟩ := BoxT.cells hw1; dsimp only at q0 q1 q2 q3 q4; go_simp⟩) ?_
  simp only [Act.put, List.setIfInBounds_toArray, List.set_cons_zero, List.set_cons_succ]
  refine wpAnyK_done (by kernel_rfl) ?_ _
  have HF2 := hide (HF1.out.two g6)
  have HT2 := hide (HT1.out.fr g6 (fun _ _ h => h))
  have HR2 := hide (HR1.out.fr g6 (fun _ _ h => h))
  have HB2 := hide hS
  obtain ⟨x0, x1, x2, x3, x4⟩ := HB2.out.cells
  dsimp only at x0 x1 x2 x3 x4
  have HPL := hide (places_any _ HT2.out)
  unfold Tb.agg at HPL
  dsimp only at HPL
  clear hS fd g1 g2 g3 g4 g5 g6 hr1 hr2 HF1 HT1 HR1 HB1
  go_wp2_with fail
  refine HPL.out.mono ?_
  rintro e w2 ⟨ap, cp, LP, rfl, hgi, hLP, hpk⟩
  have f2 := hgi.2.1
  have HGI := hide hgi
  have HLP := hide hLP
  have HPK := hide hpk
  have HF3 := hide (HF2.out.two f2)
  have HT3 := hide (HT2.out.fr f2 (fun _ _ h => h))
  have HR3 := hide (HR2.out.fr f2 (fun _ _ h => h))
  have HB3 := hide (HB2.out.fr f2 (fun h => h))
  clear x0 x1 x2 x3 x4 HPL f2 hgi hLP hpk HF2 HT2 HR2 HB2
  obtain ⟨x0, x1, x2, x3, x4⟩ := HB3.out.cells
  dsimp only at x0 x1 x2 x3 x4
  go_wp2_with fail
  go_loopw [40] (fun vi wr => ∃ j : Nat, j ≤ kn ∧ vi = .int .i64 (j : Int) ∧ Fr w2 wr (fun _ => False)) (fun vi _ => kn - (intOf vi).toNat)
  case atStart => exact ⟨0, Nat.zero_le _, rfl, Fr.refl _ _⟩
  case round =>
    rename World => W
    obtain ⟨j, hj, rfl, hf⟩ := hrel
    have HFW := hide hf
    have HTW := hide (HT3.out.fr hf (fun _ _ h => h))
    have HBW := hide (HB3.out.fr hf (fun h => h))
    have HGW := hide (HGI.out.fr hf)
    clear x0 x1 x2 x3 x4 hf
    rcases Nat.lt_or_ge j kn with hlt | hge
    · obtain ⟨key, hkey⟩ : ∃ x, K[j]? = some x := ⟨_, List.getElem?_eq_getElem (by rw [HTW.out.kn]; exact hlt)⟩
      obtain ⟨r, hr⟩ : ∃ x, LP[j]? = some x := ⟨_, List.getElem?_eq_getElem (by rw [HLP.out]; exact hlt)⟩
      obtain ⟨gk, ok, hka, _, ek⟩ := HTW.out.keys j key hkey
      dsimp only at hka
      subst hka
      have hrow := HGW.out.1
      rw [HLP.out] at hrow
      obtain ⟨gp, hgp, er⟩ := row_cell hrow (show (LP.map (Value.int .i64))[j]? = some (.int .i64 r) by rw [List.getElem?_map, hr]; rfl)
      subst hgp
      have HPR := hide (HPK.out j key r hkey hr)
      have hS : SP B0 ⟨id, nm, ca, cn, cc, C, some ⟨gk, ok, none⟩, kn, kc, K, ix⟩ gp j r W := ⟨HBW.out, er⟩
      replace hS := hS.fr (Fr.drew W _)
      clear hrow hkey hr er
      go_wp2_with fail
      refine wp_region_K (fun _ => true) (SP B0 ⟨id, nm, ca, cn, cc, C, some ⟨gk, ok, none⟩, kn, kc, K, ix⟩ gp j r) (by kernel_rfl) ?_
      clear ek
      refine wpAnyK_takeTo 0 (some 45) (.slice (some ⟨gp, 0, none⟩) kn cp) [1, 5, 6, 7, 8, 9, 10, 11, 12, 13, 14, 15, 16] rfl rfl (by kernel_rfl) (by kernel_rfl) (by kernel_rfl) (by kernel_rfl) (fun _ _ _ h => h) hS (Or.inl ⟨rfl, fun w1 hw1 => by obtain ⟨⟨q0, q1, q2, q3, q4⟩, q5⟩ := SP.cells hw1; dsimp only at q0 q1 q2 q3 q4 q5; go_simp⟩) ?_
      simp only [Act.put, List.setIfInBounds_toArray, List.set_cons_zero, List.set_cons_succ]
      refine wpAnyK_takeTo 1 (some 46) (.int .i64 (kn : Int)) [5, 6, 7, 8, 9, 10, 11, 12, 13, 14, 15, 16] rfl rfl (by kernel_rfl) (by kernel_rfl) (by kernel_rfl) (by kernel_rfl) (fun _ _ _ h => h) hS (Or.inl ⟨rfl, fun w1 hw1 => by obtain ⟨⟨q0, q1, q2, q3, q4⟩, q5⟩ := SP.cells hw1; dsimp only at q0 q1 q2 q3 q4 q5; go_simp⟩) ?_
      simp only [Act.put, List.setIfInBounds_toArray, List.set_cons_zero, List.set_cons_succ]
      refine wpAnyK_takeTo 2 (some 47) (.pointer (some ⟨B0, 3, none⟩)) [3, 4, 5, 6, 7, 8, 9, 10, 11, 12, 13, 14, 15, 16] rfl rfl (by kernel_rfl) (by kernel_rfl) (by kernel_rfl) (by kernel_rfl) (fun _ _ _ h => h) hS (Or.inl ⟨rfl, fun w1 hw1 => by obtain ⟨⟨q0, q1, q2, q3, q4⟩, q5⟩ := SP.cells hw1; dsimp only at q0 q1 q2 q3 q4 q5; go_simp⟩) ?_
      simp only [Act.put, List.setIfInBounds_toArray, List.set_cons_zero, List.set_cons_succ]
      refine wpAnyK_takeTo 3 (some 48) (.slice (some ⟨gk, ok, none⟩) kn kc) [4, 5, 6, 7, 8, 9, 10, 11, 12, 13, 14, 15, 16] rfl rfl (by kernel_rfl) (by kernel_rfl) (by kernel_rfl) (by kernel_rfl) (fun _ _ _ h => h) hS (Or.inl ⟨rfl, fun w1 hw1 => by obtain ⟨⟨q0, q1, q2, q3, q4⟩, q5⟩ := SP.cells hw1; dsimp only at q0 q1 q2 q3 q4 q5; go_simp⟩) ?_
      simp only [Act.put, List.setIfInBounds_toArray, List.set_cons_zero, List.set_cons_succ]
      refine wpAnyK_takeTo 4 (some 49) (.int .i64 (kn : Int)) [5, 6, 7, 8, 9, 10, 11, 12, 13, 14, 15, 16] rfl rfl (by kernel_rfl) (by kernel_rfl) (by kernel_rfl) (by kernel_rfl) (fun _ _ _ h => h) hS (Or.inl ⟨rfl, fun w1 hw1 => by obtain ⟨⟨q0, q1, q2, q3, q4⟩, q5⟩ := SP.cells hw1; dsimp only at q0 q1 q2 q3 q4 q5; go_simp⟩) ?_
      simp only [Act.put, List.setIfInBounds_toArray, List.set_cons_zero, List.set_cons_succ]
      refine wpAnyK_takeTo 5 (some 50) (.bool false) [6, 7, 8, 9, 10, 11, 12, 13, 14, 15, 16] rfl rfl (by kernel_rfl) (by kernel_rfl) (by kernel_rfl) (by kernel_rfl) (fun _ _ _ h => h) hS (Or.inl ⟨rfl, fun w1 hw1 => by obtain ⟨⟨q0, q1, q2, q3, q4⟩, q5⟩ := SP.cells hw1; dsimp only at q0 q1 q2 q3 q4 q5; go_simp⟩) ?_
      simp only [Act.put, List.setIfInBounds_toArray, List.set_cons_zero, List.set_cons_succ]
      refine wpAnyK_takeTo 6 (some 51) (.bool false) [7, 8, 9, 10, 11, 12, 13, 14, 15, 16] rfl rfl (by kernel_rfl) (by kernel_rfl) (by kernel_rfl) (by kernel_rfl) (fun _ _ _ h => h) hS (Or.inl ⟨rfl, fun w1 hw1 => by obtain ⟨⟨q0, q1, q2, q3, q4⟩, q5⟩ := SP.cells hw1; dsimp only at q0 q1 q2 q3 q4 q5; go_simp⟩) ?_
      simp only [Act.put, List.setIfInBounds_toArray, List.set_cons_zero, List.set_cons_succ]
      refine wpAnyK_takeTo 7 (some 52) (.slice (some ⟨gp, 0, none⟩) kn cp) [9, 10, 15, 16] rfl rfl (by kernel_rfl) (by kernel_rfl) (by kernel_rfl) (by kernel_rfl) (fun _ _ _ h => h) hS (Or.inl ⟨rfl, fun w1 hw1 => by obtain ⟨⟨q0, q1, q2, q3, q4⟩, q5⟩ := SP.cells hw1; dsimp only at q0 q1 q2 q3 q4 q5; go_simp⟩) ?_
      simp only [Act.put, List.setIfInBounds_toArray, List.set_cons_zero, List.set_cons_succ]
      refine wpAnyK_takeTo 8 (some 53) (.int .i64 (j : Int)) [9, 10, 15, 16] rfl rfl (by kernel_rfl) (by kernel_rfl) (by kernel_rfl) (by kernel_rfl) (fun _ _ _ h => h) hS (Or.inl ⟨rfl, fun w1 hw1 => by obtain ⟨⟨q0, q1, q2, q3, q4⟩, q5⟩ := SP.cells hw1; dsimp only at q0 q1 q2 q3 q4 q5; go_simp⟩) ?_
      simp only [Act.put, List.setIfInBounds_toArray, List.set_cons_zero, List.set_cons_succ]
      refine wpAnyK_takeTo 9 (some 54) (.pointer (some ⟨gp, j, none⟩)) [10, 15, 16] rfl rfl (by kernel_rfl) (by kernel_rfl) (by kernel_rfl) (by kernel_rfl) (fun _ _ _ h => h) hS (Or.inl ⟨rfl, fun w1 hw1 => by obtain ⟨⟨q0, q1, q2, q3, q4⟩, q5⟩ := SP.cells hw1; dsimp only at q0 q1 q2 q3 q4 q5; go_simp⟩) ?_
      simp only [Act.put, List.setIfInBounds_toArray, List.set_cons_zero, List.set_cons_succ]
      refine wpAnyK_takeTo 10 (some 55) (.int .i64 r) [15, 16] rfl rfl (by kernel_rfl) (by kernel_rfl) (by kernel_rfl) (by kernel_rfl) (fun _ _ _ h => h) hS (Or.inl ⟨rfl, fun w1 hw1 => by obtain ⟨⟨q0, q1, q2, q3, q4⟩, q5⟩ := SP.cells hw1; dsimp only at q0 q1 q2 q3 q4 q5; go_simp⟩) ?_
      simp only [Act.put, List.setIfInBounds_toArray, List.set_cons_zero, List.set_cons_succ]
      refine wpAnyK_takeTo 11 (some 56) (.agg #[.int .i64 id, .string nm, .slice ca cn cc, .slice (some ⟨gk, ok, none⟩) kn kc, .bool ix]) [12, 14, 15, 16] rfl rfl (by kernel_rfl) (by kernel_rfl) (by kernel_rfl) (by kernel_rfl) (fun _ _ _ h => h) hS (Or.inl ⟨rfl, fun w1 hw1 => by obtain ⟨⟨q0, q1, q2, q3, q4⟩, q5⟩ := SP.cells hw1; dsimp only at q0 q1 q2 q3 q4 q5; go_simp⟩) ?_
      simp only [Act.put, List.setIfInBounds_toArray, List.set_cons_zero, List.set_cons_succ]
      refine wpAnyK_takeTo 13 (some 58) (.string key) [14, 15, 16] rfl rfl (by kernel_rfl) (by kernel_rfl) (by kernel_rfl) (by kernel_rfl) (fun _ _ _ h => h) hS (Or.inl ⟨rfl, fun w1 hw1 => by obtain ⟨⟨q0, q1, q2, q3, q4⟩, q5⟩ := SP.cells hw1; dsimp only at q0 q1 q2 q3 q4 q5; go_simp⟩) ?_
      simp only [Act.put, List.setIfInBounds_toArray, List.set_cons_zero, List.set_cons_succ]
      refine wpAnyK_one (i := 12) (by kernel_rfl) rfl rfl ?_
      refine wp_call_to (some 57) rfl 16 #[.agg #[.int .i64 id, .string nm, .slice ca cn cc, .slice (some ⟨gk, ok, none⟩) kn kc, .bool ix]] (by go_simp) (plain_any ⟨id, nm, ca, cn, cc, C, some ⟨gk, ok, none⟩, kn, kc, K, ix⟩ W.drew) ?_
      rintro e V1 ⟨rfl, g1⟩
      replace hS := hS.fr g1
      refine ⟨_, rfl, fun _ => hS, ?_⟩
      try unfold Tb.agg
      try dsimp only
      simp only [Act.put, List.setIfInBounds_toArray, List.set_cons_zero, List.set_cons_succ]
      have g1 := (Fr.drew W (fun _ => False)).two g1
      refine wpAnyK_one (i := 14) (by kernel_rfl) rfl rfl ?_
      refine wp_call_to (some 59) rfl 20 #[.agg #[.int .i64 id, .string nm, .slice ca cn cc, .slice (some ⟨gk, ok, none⟩) kn kc, .bool ix], .string key] (by go_simp) (place_ref ⟨id, nm, ca, cn, cc, C, some ⟨gk, ok, none⟩, kn, kc, K, ix⟩ (HTW.out.fr g1 (fun _ _ h => h)).cols HTW.out.cn HTW.out.cb key) ?_
      rintro e V2 ⟨r2, rfl, hr2, g2⟩
      replace hS := hS.fr g2
      refine ⟨_, rfl, fun _ => hS, ?_⟩
      simp only [Act.put, List.setIfInBounds_toArray, List.set_cons_zero, List.set_cons_succ]
      have g2 := g1.two g2
      obtain rfl : r = r2 := place_same HPR.out hr2
      refine wpAnyK_takeTo 15 (some 60) (.bool false) [16] rfl rfl (by kernel_rfl) (by kernel_rfl) (by kernel_rfl) (by kernel_rfl) (fun _ _ _ h => h) hS (Or.inl ⟨rfl, fun w1 hw1 => by obtain ⟨⟨q0, q1, q2, q3, q4⟩, q5⟩ := SP.cells hw1; dsimp only at q0 q1 q2 q3 q4 q5; go_simp⟩) ?_
      simp only [Act.put, List.setIfInBounds_toArray, List.set_cons_zero, List.set_cons_succ]
      refine wpAnyK_takeTo 16 (some 61) (.bool false) [] rfl rfl (by kernel_rfl) (by kernel_rfl) (by kernel_rfl) (by kernel_rfl) (fun _ _ _ h => h) hS (Or.inl ⟨rfl, fun w1 hw1 => by obtain ⟨⟨q0, q1, q2, q3, q4⟩, q5⟩ := SP.cells hw1; dsimp only at q0 q1 q2 q3 q4 q5; go_simp⟩) ?_
      simp only [Act.put, List.setIfInBounds_toArray, List.set_cons_zero, List.set_cons_succ]
      refine wpAnyK_done (by kernel_rfl) ?_ _
      have HFE := hide (HFW.out.two g2)
      clear hS g1 g2 hr2
      go_wp2
      go_roundw
      case rel => exact ⟨j + 1, by omega, by go_num, HFE.out⟩
      case measure => simp [intOf]; omega
    · have hcj : ¬ ((j : Int) < (kn : Int)) := by omega
      have hcjb : decide ((j : Int) < (kn : Int)) = false := by simp; omega
      obtain ⟨N, hN⟩ : ∃ N, N = (rowP ⟨id, nm, ca, cn, cc, C, ka, kn, kc, K, ix⟩).length := ⟨_, rfl⟩
      have hNb : N ≤ 8388608 := by
        have h1 := HTW.out.cn
        have h2 := HTW.out.cb
        have h3 := HTW.out.kn
        dsimp only at h1 h2 h3
        rw [hN, rowP_length]
        dsimp only
        omega
      go_wp2_with fail
      refine wp_region_K (fun _ => true) (fun U : World => BoxT U B0 ⟨id, nm, ca, cn, cc, C, ka, kn, kc, K, ix⟩) (by kernel_rfl) ?_
      have fd := Fr.drew W (fun _ => False)
      have hS := HBW.out.fr fd (fun h => h)
      refine wpAnyK_takeTo 0 (some 63) (.agg #[.int .i64 id, .string nm, .slice ca cn cc, .slice ka kn kc, .bool ix]) [1, 3, 4, 5, 6] rfl rfl (by kernel_rfl) (by kernel_rfl) (by kernel_rfl) (by kernel_rfl) (fun _ _ _ h => h) hS (Or.inl ⟨rfl, fun w1 hw1 => by obtain ⟨q0, q1, q2, q3, q4⟩ := BoxT.cells hw1; dsimp only at q0 q1 q2 q3 q4; go_simp⟩) ?_
      simp only [Act.put, List.setIfInBounds_toArray, List.set_cons_zero, List.set_cons_succ]
      refine wpAnyK_takeTo 2 (some 65) (.agg #[.int .i64 id, .string nm, .slice ca cn cc, .slice ka kn kc, .bool ix]) [3, 4, 5, 6] rfl rfl (by kernel_rfl) (by kernel_rfl) (by kernel_rfl) (by kernel_rfl) (fun _ _ _ h => h) hS (Or.inl ⟨rfl, fun w1 hw1 => by obtain ⟨q0, q1, q2, q3, q4⟩ := BoxT.cells hw1; dsimp only at q0 q1 q2 q3 q4; go_simp⟩) ?_
      simp only [Act.put, List.setIfInBounds_toArray, List.set_cons_zero, List.set_cons_succ]
      refine wpAnyK_one (i := 1) (by kernel_rfl) rfl rfl ?_
      refine wp_call_to (some 64) rfl 22 #[.agg #[.int .i64 id, .string nm, .slice ca cn cc, .slice ka kn kc, .bool ix]] (by go_simp) (row_any ⟨id, nm, ca, cn, cc, C, ka, kn, kc, K, ix⟩ (HTW.out.fr fd (fun _ _ h => h))) ?_
      rintro e V1 ⟨v1, rfl, hg1⟩
      replace hS := hS.fr hg1.2.1 (fun h => h)
      refine ⟨_, rfl, fun _ => hS, ?_⟩
      simp only [Act.put, List.setIfInBounds_toArray, List.set_cons_zero, List.set_cons_succ]
      obtain ⟨a1, c1, rfl, hv1, _, _⟩ := hg1.vals
      have g1 := fd.two hg1.2.1
      refine wpAnyK_one (i := 3) (by kernel_rfl) rfl rfl ?_
      refine wp_call_to (some 66) rfl 16 #[.agg #[.int .i64 id, .string nm, .slice ca cn cc, .slice ka kn kc, .bool ix]] (by go_simp) (plain_any ⟨id, nm, ca, cn, cc, C, ka, kn, kc, K, ix⟩ V1) ?_
      rintro e V2 ⟨rfl, g2⟩
      replace hS := hS.fr g2 (fun h => h)
      refine ⟨_, rfl, fun _ => hS, ?_⟩
      try unfold Tb.agg
      try dsimp only
      simp only [Act.put, List.setIfInBounds_toArray, List.set_cons_zero, List.set_cons_succ]
      have g3 := g1.two g2
      refine wpAnyK_one (i := 4) (by kernel_rfl) rfl rfl ?_
      refine wp_call_to (some 67) rfl 23 #[.agg #[.int .i64 id, .string nm, .slice ca cn cc, .slice ka kn kc, .bool ix]] (by go_simp) (row_ref ⟨id, nm, ca, cn, cc, C, ka, kn, kc, K, ix⟩ (HTW.out.fr g3 (fun _ _ h => h))) ?_
      rintro e V3 ⟨v2, rfl, hg4⟩
      replace hS := hS.fr hg4.2.1 (fun h => h)
      refine ⟨_, rfl, fun _ => hS, ?_⟩
      simp only [Act.put, List.setIfInBounds_toArray, List.set_cons_zero, List.set_cons_succ]
      obtain ⟨a2, c2, rfl, hv2, _, _⟩ := hg4.vals
      have g4 := g3.two hg4.2.1
      have hv1 := hv1.fr (g2.two hg4.2.1) (fun _ _ h => h)
      rw [← hN]
      refine wpAnyK_takeTo 5 (some 10) (.slice a1 N c1) [6] rfl rfl (by kernel_rfl) (by kernel_rfl) (by kernel_rfl) (by kernel_rfl) (fun _ _ _ h => h) hS (Or.inl ⟨rfl, fun w1 hw1 => by obtain ⟨q0, q1, q2, q3, q4⟩ := BoxT.cells hw1; dsimp only at q0 q1 q2 q3 q4; go_simp⟩) ?_
      simp only [Act.put, List.setIfInBounds_toArray, List.set_cons_zero, List.set_cons_succ]
      refine wpAnyK_takeTo 6 (some 11) (.slice a2 N c2) [] rfl rfl (by kernel_rfl) (by kernel_rfl) (by kernel_rfl) (by kernel_rfl) (fun _ _ _ h => h) hS (Or.inl ⟨rfl, fun w1 hw1 => by obtain ⟨q0, q1, q2, q3, q4⟩ := BoxT.cells hw1; dsimp only at q0 q1 q2 q3 q4; go_simp⟩) ?_
      simp only [Act.put, List.setIfInBounds_toArray, List.set_cons_zero, List.set_cons_succ]
      refine wpAnyK_done (by kernel_rfl) ?_ _
      have g4 := HFW.out.two g4
      have HF4 := hide (HF3.out.two g4)
      have HR4 := hide (HR3.out.fr g4 (fun _ _ h => h))
      have HV1 := hide hv1
      have HV2 := hide hv2
      have HNE := hide hN
      clear hS fd hg1 hg4 g1 g2 g3 g4 hv1 hv2 hN hge hcj hcjb
      go_wp2_with fail
      go_loopw [75] (fun vi wr => ∃ m : Nat, m ≤ N ∧ vi = .int .i64 (m : Int) ∧ Fr V3 wr (fun _ => False)) (fun vi _ => N - (intOf vi).toNat)
      case atStart => exact ⟨0, Nat.zero_le _, rfl, Fr.refl _ _⟩
      case round =>
        rename World => W2
        obtain ⟨m, hm, rfl, hf⟩ := hrel
        have HFW2 := hide hf
        clear hf
        rcases Nat.lt_or_ge m N with hlt | hge
        · obtain ⟨x, hx⟩ : ∃ x, (rowP ⟨id, nm, ca, cn, cc, C, ka, kn, kc, K, ix⟩)[m]? = some x := ⟨_, List.getElem?_eq_getElem (by rw [← HNE.out]; exact hlt)⟩
          have fe := HFW2.out.two (Fr.drew W2 _)
          obtain ⟨p1, o1, ha1, _, e0, e1, e2⟩ := (HV1.out.fr fe (fun _ _ h => h)) m x hx
          obtain ⟨p2, o2, ha2, _, d0, d1, d2⟩ := (HV2.out.fr fe (fun _ _ h => h)) m x hx
          rw [ha1, ha2]
          obtain ⟨xk, xi, xt⟩ := x
          dsimp only at e0 e1 e2 d0 d1 d2
          have HFE := hide fe
          clear hx ha1 ha2 fe
          go_wp2_with fail
          refine wp_region_K (fun _ => true) (fun U : World => U = W2.drew) (by kernel_rfl) ?_
          have hS : (fun U : World => U = W2.drew) W2.drew := rfl
          refine wpAnyK_takeTo 0 (some 78) (.slice (some ⟨p1, o1, none⟩) N c1) [2, 3, 8] rfl rfl (by kernel_rfl) (by kernel_rfl) (by kernel_rfl) (by kernel_rfl) (fun _ _ _ h => h) hS (Or.inl ⟨rfl, fun w1 hw1 => by have hw1 : w1 = W2.drew := hw1; subst hw1; go_simp⟩) ?_
          simp only [Act.put, List.setIfInBounds_toArray, List.set_cons_zero, List.set_cons_succ]
          refine wpAnyK_takeTo 1 (some 79) (.int .i64 (m : Int)) [2, 3, 8] rfl rfl (by kernel_rfl) (by kernel_rfl) (by kernel_rfl) (by kernel_rfl) (fun _ _ _ h => h) hS (Or.inl ⟨rfl, fun w1 hw1 => by have hw1 : w1 = W2.drew := hw1; subst hw1; go_simp⟩) ?_
          simp only [Act.put, List.setIfInBounds_toArray, List.set_cons_zero, List.set_cons_succ]
          refine wpAnyK_takeTo 2 (some 80) (.pointer (some ⟨p1, o1 + m * 3, none⟩)) [3, 8] rfl rfl (by kernel_rfl) (by kernel_rfl) (by kernel_rfl) (by kernel_rfl) (fun _ _ _ h => h) hS (Or.inl ⟨rfl, fun w1 hw1 => by have hw1 : w1 = W2.drew := hw1; subst hw1; go_simp⟩) ?_
          simp only [Act.put, List.setIfInBounds_toArray, List.set_cons_zero, List.set_cons_succ]
          refine wpAnyK_takeTo 3 (some 81) (.agg #[.int .i64 xk, .int .i64 xi, .string xt]) [8] rfl rfl (by kernel_rfl) (by kernel_rfl) (by kernel_rfl) (by kernel_rfl) (fun _ _ _ h => h) hS (Or.inl ⟨rfl, fun w1 hw1 => by have hw1 : w1 = W2.drew := hw1; subst hw1; go_simp⟩) ?_
          simp only [Act.put, List.setIfInBounds_toArray, List.set_cons_zero, List.set_cons_succ]
          refine wpAnyK_takeTo 4 (some 82) (.slice (some ⟨p2, o2, none⟩) N c2) [6, 7, 8] rfl rfl (by kernel_rfl) (by kernel_rfl) (by kernel_rfl) (by kernel_rfl) (fun _ _ _ h => h) hS (Or.inl ⟨rfl, fun w1 hw1 => by have hw1 : w1 = W2.drew := hw1; subst hw1; go_simp⟩) ?_
          simp only [Act.put, List.setIfInBounds_toArray, List.set_cons_zero, List.set_cons_succ]
          refine wpAnyK_takeTo 5 (some 83) (.int .i64 (m : Int)) [6, 7, 8] rfl rfl (by kernel_rfl) (by kernel_rfl) (by kernel_rfl) (by kernel_rfl) (fun _ _ _ h => h) hS (Or.inl ⟨rfl, fun w1 hw1 => by have hw1 : w1 = W2.drew := hw1; subst hw1; go_simp⟩) ?_
          simp only [Act.put, List.setIfInBounds_toArray, List.set_cons_zero, List.set_cons_succ]
          refine wpAnyK_takeTo 6 (some 84) (.pointer (some ⟨p2, o2 + m * 3, none⟩)) [7, 8] rfl rfl (by kernel_rfl) (by kernel_rfl) (by kernel_rfl) (by kernel_rfl) (fun _ _ _ h => h) hS (Or.inl ⟨rfl, fun w1 hw1 => by have hw1 : w1 = W2.drew := hw1; subst hw1; go_simp⟩) ?_
          simp only [Act.put, List.setIfInBounds_toArray, List.set_cons_zero, List.set_cons_succ]
          refine wpAnyK_takeTo 7 (some 85) (.agg #[.int .i64 xk, .int .i64 xi, .string xt]) [8] rfl rfl (by kernel_rfl) (by kernel_rfl) (by kernel_rfl) (by kernel_rfl) (fun _ _ _ h => h) hS (Or.inl ⟨rfl, fun w1 hw1 => by have hw1 : w1 = W2.drew := hw1; subst hw1; go_simp⟩) ?_
          simp only [Act.put, List.setIfInBounds_toArray, List.set_cons_zero, List.set_cons_succ]
          refine wpAnyK_takeTo 8 (some 86) (.bool false) [] rfl rfl (by kernel_rfl) (by kernel_rfl) (by kernel_rfl) (by kernel_rfl) (fun _ _ _ h => h) hS (Or.inl ⟨rfl, fun w1 hw1 => by have hw1 : w1 = W2.drew := hw1; subst hw1; go_simp⟩) ?_
          simp only [Act.put, List.setIfInBounds_toArray, List.set_cons_zero, List.set_cons_succ]
          clear hS e0 e1 e2 d0 d1 d2
          refine wpAnyK_done (by kernel_rfl) ?_ _
          go_wp2
          go_roundw
          case rel => exact ⟨m + 1, by omega, by go_num, HFE.out⟩
          case measure => simp [intOf]; omega
        · have hcj : ¬ ((m : Int) < (N : Int)) := by omega
          have hcjb : decide ((m : Int) < (N : Int)) = false := by simp; omega
          have HF5 := hide (HF4.out.two HFW2.out)
          have HR5 := hide (HR4.out.fr HFW2.out (fun _ _ h => h))
          have HRE := hide (read_all a n c R HR5.out HN.out hc hb H64.out)
          clear hge
          go_wp2_with fail
          refine HRE.out.mono ?_
          intro e W3 hrd
          obtain ⟨f3, t1, k1, rfl, htl1, hti1⟩ := tells_of hrd
          obtain ⟨ti, tn, t1c, tcn, t1d, tC, t1k, tkn, t1e, tK, tx⟩ := t1
          obtain ⟨B1, hB1⟩ : ∃ B1, B1 = W3.heap.size := ⟨_, rfl⟩
          obtain ⟨W4, hW4⟩ : ∃ W4, W4 = W3.alloc (.cells #[.int .i64 ti, .string tn, .slice t1c tcn t1d, .slice t1k tkn t1e, .bool tx] 30) := ⟨_, rfl⟩
          have b4 : BoxT W4 B1 ⟨ti, tn, t1c, tcn, t1d, tC, t1k, tkn, t1e, tK, tx⟩ := by rw [hW4, hB1]; exact heap_alloc_new W3 _
          have f4 : Fr W3 W4 (fun _ => False) := by rw [hW4]; exact Fr.alloc W3 _ _
          have f34 := f3.two f4
          have HF6 := hide (HF5.out.two f34)
          have HR6 := hide (HR5.out.fr f34 (fun _ _ h => h))
          have HT6 := hide (hti1.fr f4 (fun _ _ h => h))
          have HB6 := hide b4
          have HTL1 := hide htl1
          have HW4 := hide hW4
          have HB1 := hide hB1
          have HRE2 := hide (rread_all a n c R HR6.out HN.out hc hb H64.out)
          clear HRE hrd f3 htl1 hti1 hB1 hW4 b4 f4 f34 hcj hcjb
          unfold Tb.agg
          dsimp only
          go_wp2_with (rw [← HW4.out, ← HB1.out]; clear HW4)
          refine HRE2.out.mono ?_
          intro e W5 hrd
          obtain ⟨f5, t2, k2, rfl, htl2, hti2⟩ := tells_of hrd
          obtain ⟨ui, un, t2c, ucn, t2d, uC, t2k, ukn, t2e, uK, ux⟩ := t2
          obtain ⟨hke, hkk⟩ := Tells.same HTL1.out htl2
          obtain rfl := hke
          simp only [Tb.key, Prod.mk.injEq] at hkk
          obtain ⟨rfl, rfl, rfl, rfl, rfl⟩ := hkk
          obtain rfl : tcn = ucn := by have h1 := HT6.out.cn; have h2 := hti2.cn; dsimp only at h1 h2; omega
          obtain rfl : tkn = ukn := by have h1 := HT6.out.kn; have h2 := hti2.kn; dsimp only at h1 h2; omega
          obtain ⟨D1, hD1⟩ : ∃ D1, D1 = W5.heap.size := ⟨_, rfl⟩
          obtain ⟨W8, hW8⟩ : ∃ W8, W8 = W5.alloc (.cells #[.int .i64 ti, .string tn, .slice t2c tcn t2d, .slice t2k tkn t2e, .bool tx] 43) := ⟨_, rfl⟩
          have b8 : BoxD W8 D1 ⟨ti, tn, t2c, tcn, t2d, tC, t2k, tkn, t2e, tK, tx⟩ := by rw [hW8, hD1]; exact heap_alloc_new W5 _
          have f8 : Fr W5 W8 (fun _ => False) := by rw [hW8]; exact Fr.alloc W5 _ _
          have f58 := f5.two f8
          have HF8 := hide (HF6.out.two f58)
          have HT8 := hide (HT6.out.fr f58 (fun _ _ h => h))
          have HT9 := hide (hti2.fr f8 (fun _ _ h => h))
          have hS : SQ B1 D1 ⟨ti, tn, t1c, tcn, t1d, tC, t1k, tkn, t1e, tK, tx⟩ ⟨ti, tn, t2c, tcn, t2d, tC, t2k, tkn, t2e, tK, tx⟩ W8 := ⟨HB6.out.fr f58 (fun h => h), b8⟩
          have HS8 := hide hS
          have HW8 := hide hW8
          have HD1 := hide hD1
          clear HRE2 hrd f5 htl2 hti2 hD1 hW8 b8 f8 f58 HTL1 hS
          unfold Tb.agg
          dsimp only
          go_wp2_with (rw [← HW8.out, ← HD1.out]; clear HW8)
          have hS := HS8.out.fr (Fr.drew W8 _)
          refine wp_region_K (fun _ => true) (SQ B1 D1 ⟨ti, tn, t1c, tcn, t1d, tC, t1k, tkn, t1e, tK, tx⟩ ⟨ti, tn, t2c, tcn, t2d, tC, t2k, tkn, t2e, tK, tx⟩) (by kernel_rfl) ?_
          refine wpAnyK_takeTo 0 (some 98) (.int .i64 k1) [2, 3, 4, 5, 6, 7, 8, 9] rfl rfl (by kernel_rfl) (by kernel_rfl) (by kernel_rfl) (by kernel_rfl) (fun _ _ _ h => h) hS (Or.inl ⟨rfl, fun w1 hw1 => by obtain ⟨⟨q0, q1, q2, q3, q4⟩, y0, y1, y2, y3, y4⟩ := SQ.cells hw1; dsimp only at q0 q1 q2 q3 q4 y0 y1 y2 y3 y4; go_simp⟩) ?_
          simp only [Act.put, List.setIfInBounds_toArray, List.set_cons_zero, List.set_cons_succ]
          refine wpAnyK_takeTo 1 (some 99) (.int .i64 k1) [2, 3, 4, 5, 6, 7, 8, 9] rfl rfl (by kernel_rfl) (by kernel_rfl) (by kernel_rfl) (by kernel_rfl) (fun _ _ _ h => h) hS (Or.inl ⟨rfl, fun w1 hw1 => by obtain ⟨⟨q0, q1, q2, q3, q4⟩, y0, y1, y2, y3, y4⟩ := SQ.cells hw1; dsimp only at q0 q1 q2 q3 q4 y0 y1 y2 y3 y4; go_simp⟩) ?_
          simp only [Act.put, List.setIfInBounds_toArray, List.set_cons_zero, List.set_cons_succ]
          refine wpAnyK_takeTo 2 (some 100) (.bool true) [3, 4, 5, 6, 7, 8, 9] rfl rfl (by kernel_rfl) (by kernel_rfl) (by kernel_rfl) (by kernel_rfl) (fun _ _ _ h => h) hS (Or.inl ⟨rfl, fun w1 hw1 => by obtain ⟨⟨q0, q1, q2, q3, q4⟩, y0, y1, y2, y3, y4⟩ := SQ.cells hw1; dsimp only at q0 q1 q2 q3 q4 y0 y1 y2 y3 y4; go_simp⟩) ?_
          simp only [Act.put, List.setIfInBounds_toArray, List.set_cons_zero, List.set_cons_succ]
          refine wpAnyK_takeTo 3 (some 101) (.bool true) [4, 5, 6, 7, 8, 9] rfl rfl (by kernel_rfl) (by kernel_rfl) (by kernel_rfl) (by kernel_rfl) (fun _ _ _ h => h) hS (Or.inl ⟨rfl, fun w1 hw1 => by obtain ⟨⟨q0, q1, q2, q3, q4⟩, y0, y1, y2, y3, y4⟩ := SQ.cells hw1; dsimp only at q0 q1 q2 q3 q4 y0 y1 y2 y3 y4; go_simp⟩) ?_
          simp only [Act.put, List.setIfInBounds_toArray, List.set_cons_zero, List.set_cons_succ]
          refine wpAnyK_takeTo 4 (some 102) (.agg #[.int .i64 ti, .string tn, .slice t1c tcn t1d, .slice t1k tkn t1e, .bool tx]) [5, 7, 8, 9] rfl rfl (by kernel_rfl) (by kernel_rfl) (by kernel_rfl) (by kernel_rfl) (fun _ _ _ h => h) hS (Or.inl ⟨rfl, fun w1 hw1 => by obtain ⟨⟨q0, q1, q2, q3, q4⟩, y0, y1, y2, y3, y4⟩ := SQ.cells hw1; dsimp only at q0 q1 q2 q3 q4 y0 y1 y2 y3 y4; go_simp⟩) ?_
          simp only [Act.put, List.setIfInBounds_toArray, List.set_cons_zero, List.set_cons_succ]
          refine wpAnyK_takeTo 6 (some 104) (.agg #[.int .i64 ti, .string tn, .slice t2c tcn t2d, .slice t2k tkn t2e, .bool tx]) [7, 8, 9] rfl rfl (by kernel_rfl) (by kernel_rfl) (by kernel_rfl) (by kernel_rfl) (fun _ _ _ h => h) hS (Or.inl ⟨rfl, fun w1 hw1 => by obtain ⟨⟨q0, q1, q2, q3, q4⟩, y0, y1, y2, y3, y4⟩ := SQ.cells hw1; dsimp only at q0 q1 q2 q3 q4 y0 y1 y2 y3 y4; go_simp⟩) ?_
          simp only [Act.put, List.setIfInBounds_toArray, List.set_cons_zero, List.set_cons_succ]
          refine wpAnyK_one (i := 5) (by kernel_rfl) rfl rfl ?_
          refine wp_call_to (some 103) rfl 16 #[.agg #[.int .i64 ti, .string tn, .slice t1c tcn t1d, .slice t1k tkn t1e, .bool tx]] (by go_simp) (plain_any ⟨ti, tn, t1c, tcn, t1d, tC, t1k, tkn, t1e, tK, tx⟩ W8.drew) ?_
          rintro e V1 ⟨rfl, g1⟩
          replace hS := hS.fr g1
          refine ⟨_, rfl, fun _ => hS, ?_⟩
          try unfold Tb.agg
          try dsimp only
          simp only [Act.put, List.setIfInBounds_toArray, List.set_cons_zero, List.set_cons_succ]
          have g1 := (Fr.drew W8 (fun _ => False)).two g1
          refine wpAnyK_one (i := 7) (by kernel_rfl) rfl rfl ?_
          refine wp_call_to (some 105) rfl 15 #[.agg #[.int .i64 ti, .string tn, .slice t1c tcn t1d, .slice t1k tkn t1e, .bool tx], .agg #[.int .i64 ti, .string tn, .slice t2c tcn t2d, .slice t2k tkn t2e, .bool tx]] (by go_simp) (same_yes ti tn tx tC tK t1c t2c t1k t2k tcn t1d t2d tkn t1e t2e (HT8.out.fr g1 (fun _ _ h => h)) (HT9.out.fr g1 (fun _ _ h => h))) ?_
          rintro e V2 ⟨rfl, g2⟩
          replace hS := hS.fr g2
          refine ⟨_, rfl, fun _ => hS, ?_⟩
          simp only [Act.put, List.setIfInBounds_toArray, List.set_cons_zero, List.set_cons_succ]
          have HFE := hide (HF8.out.two (g1.two g2))
          refine wpAnyK_takeTo 8 (some 106) (.bool true) [9] rfl rfl (by kernel_rfl) (by kernel_rfl) (by kernel_rfl) (by kernel_rfl) (fun _ _ _ h => h) hS (Or.inl ⟨rfl, fun w1 hw1 => by obtain ⟨⟨q0, q1, q2, q3, q4⟩, y0, y1, y2, y3, y4⟩ := SQ.cells hw1; dsimp only at q0 q1 q2 q3 q4 y0 y1 y2 y3 y4; go_simp⟩) ?_
          simp only [Act.put, List.setIfInBounds_toArray, List.set_cons_zero, List.set_cons_succ]
          refine wpAnyK_takeTo 9 (some 6) (.bool true) [] rfl rfl (by kernel_rfl) (by kernel_rfl) (by kernel_rfl) (by kernel_rfl) (fun _ _ _ h => h) hS (Or.inl ⟨rfl, fun w1 hw1 => by obtain ⟨⟨q0, q1, q2, q3, q4⟩, y0, y1, y2, y3, y4⟩ := SQ.cells hw1; dsimp only at q0 q1 q2 q3 q4 y0 y1 y2 y3 y4; go_simp⟩) ?_
          simp only [Act.put, List.setIfInBounds_toArray, List.set_cons_zero, List.set_cons_succ]
          refine wpAnyK_done (by kernel_rfl) ?_ _
          go_wp2
          go_ret
          exact ⟨rfl, HFE.out⟩
end Go.Proofs.Ytdeopneififnnaa
