/- CatalogIndexes: the walk. -/
import Derived.Test.YtdeopneififnnaaRa
import Derived.Test.YtdeopneififnnaaPb
import Derived.Test.YtdeopneififnnaaSa
namespace Go.Proofs.Ytdeopneififnnaa
open Go.RowKit
set_option maxRecDepth 100000
set_option linter.unusedVariables false
set_option linter.unusedSimpArgs false

theorem Cat.lt {X : Nat → Prop} {w : World} {gc : Nat} {v : Value} {L : List Tb} (h : Cat X w gc v L) : Cat (fun k => X k ∧ k < w.heap.size) w gc v L :=
  ⟨h.box, h.row, ⟨h.xg, (Array.getElem?_eq_some_iff.1 h.box).1⟩, fun k hk => ⟨⟨(h.xr k hk).1, ownsRow_lt h.row hk⟩, (h.xr k hk).2⟩, fun t ht => (h.tabs t ht).lt.mono (fun k hk => ⟨⟨hk.1.1, hk.2⟩, hk.1.2⟩)⟩
/-- Three boxes of tables. -/
def S3 (B0 B1 B2 : Nat) (t x y : Tb) (U : World) : Prop := BoxT U B0 t ∧ BoxT U B1 x ∧ BoxT U B2 y
theorem S3.fr {B0 B1 B2 : Nat} {t x y : Tb} {U V : World} {X : Nat → Prop} (h : S3 B0 B1 B2 t x y U) (hf : Fr U V X) (h0 : ¬ X B0) (h1 : ¬ X B1) (h2 : ¬ X B2) : S3 B0 B1 B2 t x y V := ⟨h.1.fr hf h0, h.2.1.fr hf h1, h.2.2.fr hf h2⟩
theorem TabIn.idx {P : Nat → Prop} {w : World} {t : Tb} {b : Bool} (h : TabIn P w t) : TabIn P w { t with ix := b } := ⟨h.cols, h.cn, h.cb, h.cs, h.keys, h.kn, h.kb, h.ks, h.id⟩
theorem S3.cells {B0 B1 B2 : Nat} {t x y : Tb} {U : World} (h : S3 B0 B1 B2 t x y U) : (U.cell? ⟨B0, 0, none⟩ = some (.int .i64 t.id) ∧ U.cell? ⟨B0, 1, none⟩ = some (.string t.name) ∧ U.cell? ⟨B0, 2, none⟩ = some (.slice t.ca t.cn t.cc) ∧ U.cell? ⟨B0, 3, none⟩ = some (.slice t.ka t.kn t.kc) ∧ U.cell? ⟨B0, 4, none⟩ = some (.bool t.ix)) ∧ (U.cell? ⟨B1, 0, none⟩ = some (.int .i64 x.id) ∧ U.cell? ⟨B1, 1, none⟩ = some (.string x.name) ∧ U.cell? ⟨B1, 2, none⟩ = some (.slice x.ca x.cn x.cc) ∧ U.cell? ⟨B1, 3, none⟩ = some (.slice x.ka x.kn x.kc) ∧ U.cell? ⟨B1, 4, none⟩ = some (.bool x.ix)) ∧ (U.cell? ⟨B2, 0, none⟩ = some (.int .i64 y.id) ∧ U.cell? ⟨B2, 1, none⟩ = some (.string y.name) ∧ U.cell? ⟨B2, 2, none⟩ = some (.slice y.ca y.cn y.cc) ∧ U.cell? ⟨B2, 3, none⟩ = some (.slice y.ka y.kn y.kc) ∧ U.cell? ⟨B2, 4, none⟩ = some (.bool y.ix)) := ⟨h.1.cells, h.2.1.cells, h.2.2.cells⟩
theorem one_get {α : Type} {a x : α} {i : Nat} (h : [a][i]? = some x) : i = 0 ∧ a = x := by
  rcases i with _ | i
  · exact ⟨rfl, Option.some.inj h⟩
  · simp at h
set_option maxHeartbeats 16000000 in
theorem indexes_walk {P : Nat → Prop} {w : World} (id : Int) (nm : ByteArray) (ca : Option Addr) (cn cc : Nat) (C : List Cn) (ka : Option Addr) (kn kc : Nat) (K : List ByteArray) (ix : Bool) (ht : TabIn P w ⟨id, nm, ca, cn, cc, C, ka, kn, kc, K, ix⟩) :
    Calls Try.prog 8 #[(⟨id, nm, ca, cn, cc, C, ka, kn, kc, K, ix⟩ : Tb).agg] w fun e w' => e = .returned (.bool true) ∧ Fr w w' (fun _ => False) := by
  obtain ⟨B0, hB0⟩ : ∃ B0, B0 = w.heap.size := ⟨_, rfl⟩
  obtain ⟨w0, hw0⟩ : ∃ w0, w0 = w.alloc (.cells #[.int .i64 id, .string nm, .slice ca cn cc, .slice ka kn kc, .bool ix] 30) := ⟨_, rfl⟩
  have b0 : BoxT w0 B0 ⟨id, nm, ca, cn, cc, C, ka, kn, kc, K, ix⟩ := by rw [hw0, hB0]; exact heap_alloc_new w _
  have f0 : Fr w w0 (fun _ => False) := by rw [hw0]; exact Fr.alloc w _ _
  have HT0 := hide (ht.fr f0 (fun _ _ h => h))
  have HB := hide b0
  have HF0 := hide f0
  have HAW := hide (awake_any w0)
  have HW := hide hw0
  have HB0 := hide hB0
  have HL0 : Hid (B0 < w0.heap.size) := hide ((Array.getElem?_eq_some_iff.1 b0).1)
  clear ht b0 f0 hw0 hB0
  unfold Tb.agg
  dsimp only
  go_enter Try.func8, Try.ntmps8
  go_wp2_with (rw [← HW.out, ← HB0.out]; clear HW)
  refine HAW.out.mono ?_
  rintro e w1 ⟨rfl, f1⟩
  have HF1 := hide (HF0.out.two f1)
  have HT1 := hide (HT0.out.fr f1 (fun _ _ h => h))
  have HB1 := hide (HB.out.fr f1 (fun h => h))
  have HNew := hide (new_any w1)
  obtain ⟨gc, hgc⟩ : ∃ gc, gc = w1.heap.size := ⟨_, rfl⟩
  rw [← hgc] at HNew
  have HGC : Hid (B0 < gc ∧ w.heap.size ≤ gc) := hide (by have := HL0.out; have := f1.size; have := HF1.out.size; omega)
  clear HAW f1 hgc HF0 HT0 HB
  go_wp2_with fail
  refine HNew.out.mono ?_
  rintro e w2 ⟨rfl, f2, hl2, hcat⟩
  have HF2 := hide (HF1.out.two f2)
  have HT2 := hide (HT1.out.fr f2 (fun _ _ h => h))
  have HB2 := hide (HB1.out.fr f2 (fun h => h))
  obtain ⟨x0, x1, x2, x3, x4⟩ := HB2.out.cells
  dsimp only at x0 x1 x2 x3 x4
  have hcr := create_any hcat (by simp) ⟨1, nm, ca, cn, cc, C, ka, kn, kc, K, false⟩ rfl rfl ⟨HT2.out.cols, HT2.out.cn, HT2.out.cb, HT2.out.cs, HT2.out.keys, HT2.out.kn, HT2.out.kb, HT2.out.ks, by unfold In64; dsimp only; omega⟩
  dsimp only at hcr
  have HCR := hide hcr
  have HCA := hide hcat
  have HL2 := hide hl2
  clear HNew f2 hl2 hcat hcr HF1 HT1 HB1
  go_wp2_with fail
  refine HCR.out.mono ?_
  rintro e w3 (⟨hne, rfl, f3⟩ | ⟨_, rfl, f3, v3, a3, c3, a4, c4, hc3⟩)
  · have HIN := hide (index_any (HCA.out.fr f3 (fun _ _ h => h)) (by simp) nm)
    have HC3 := hide (HCA.out.fr f3 (fun _ _ h => h))
    have HF3 := hide (HF2.out.two f3)
    have HB3 := hide (HB2.out.fr f3 (fun h => h))
    clear x0 x1 x2 x3 x4
    obtain ⟨x0, x1, x2, x3, x4⟩ := HB3.out.cells
    dsimp only at x0 x1 x2 x3 x4
    generalize createE [] ⟨1, nm, ca, cn, cc, C, ka, kn, kc, K, false⟩ = q at hne
    have hne1 : (q == 0) = false := by simpa using hne
    have hne2 : (q != 0) = true := by simpa using hne
    clear HCR f3
    go_wp2_with fail
    refine HIN.out.mono ?_
    rintro e w4 (⟨hno, rfl, f4⟩ | ⟨i, x, hi, _⟩)
    case inr => simp at hi
    have HC4 := hide (HC3.out.fr f4 (fun _ _ h => h))
    have HF4 := hide (HF3.out.two f4)
    have HTA := hide (tables_any HC4.out (by simp))
    clear HIN hno f4 x0 x1 x2 x3 x4
    go_wp2_with fail
    refine HTA.out.mono ?_
    rintro e w5 ⟨a, c, M, rfl, hcp⟩
    have HF5 := hide (HF4.out.two hcp.fr)
    clear HTA hcp
    go_wp2
    go_ret
    exact ⟨rfl, HF5.out⟩
  · have hc3' := hc3.lt
    simp only [List.nil_append] at hc3'
    have HC3 := hide hc3'
    have HGX := hide hc3'.xg
    have HXW : Hid (∀ k, ((k = gc ∨ w2.heap.size ≤ k) ∧ k < w3.heap.size) → B0 < k ∧ w.heap.size ≤ k ∧ k < w3.heap.size) := hide (fun k hk => by have := HGC.out; have := HL2.out; have := HF2.out.size; omega)
    have HF3 := hide ((HF2.out.trans f3).mono (Y := fun _ => False) (fun k hk h => by rcases h with h | h; exact h; (have := HGC.out; omega)))
    have HB3 := hide (HB2.out.fr f3 (fun h => by have := HGC.out; omega))
    clear x0 x1 x2 x3 x4
    obtain ⟨x0, x1, x2, x3, x4⟩ := HB3.out.cells
    dsimp only at x0 x1 x2 x3 x4
    have HFO := hide (fork_any HC3.out (by simp))
    clear HCR f3 hc3 hc3'
    go_wp2_with fail
    refine HFO.out.mono ?_
    rintro e w4 ⟨gf, vf, M, rfl, hM, hcf, f4⟩
    obtain ⟨m, hm, hMk⟩ : ∃ m : Tb, M = [m] ∧ m.key = (1, nm, C, K, false) := by
      cases M with
      | nil => simp at hM
      | cons m M =>
        simp only [List.map_cons, List.map_nil, List.cons.injEq, List.map_eq_nil_iff] at hM
        obtain ⟨h1, h2⟩ := hM
        exact ⟨m, by rw [h2], h1⟩
    subst hm
    obtain ⟨mi, mn, ma, mc, md, mC, me, mk, ml, mK, mx⟩ := m
    simp only [Tb.key, Prod.mk.injEq] at hMk
    obtain ⟨rfl, rfl, rfl, rfl, rfl⟩ := hMk
    have HCF := hide hcf.lt
    have HC4 := hide (HC3.out.fr f4 (fun _ _ h => h))
    have HF4 := hide (HF3.out.two f4)
    have HB4 := hide (HB3.out.fr f4 (fun h => h))
    clear x0 x1 x2 x3 x4
    obtain ⟨x0, x1, x2, x3, x4⟩ := HB4.out.cells
    dsimp only at x0 x1 x2 x3 x4
    have HIN := hide (index_any HC4.out (by simp) mn)
    clear HFO hM hcf f4 HC3 HF3 HB3
    go_wp2_with fail
    refine HIN.out.mono ?_
    rintro e w5 (⟨hno, _⟩ | ⟨i, x, hi, hx, _, ⟨hix, _⟩ | ⟨hix, rfl, f5, hc5⟩⟩)
    · exact absurd rfl (hno _ (List.mem_singleton.2 rfl))
    · obtain ⟨rfl, rfl⟩ := one_get hi
      cases hix
    obtain ⟨rfl, rfl⟩ := one_get hi
    have HC5 := hide hc5
    have HCF5 := hide (HCF.out.fr f5 (fun k hk h => by have := HXW.out k h; omega))
    have HF5 := hide ((HF4.out.trans f5).mono (Y := fun _ => False) (fun k hk h => by rcases h with h | h; exact h; (have := HXW.out k h; omega)))
    have HB5 := hide (HB4.out.fr f5 (fun h => by have := HXW.out _ h; omega))
    have HS5 := hide f5.size
    clear x0 x1 x2 x3 x4
    obtain ⟨x0, x1, x2, x3, x4⟩ := HB5.out.cells
    dsimp only at x0 x1 x2 x3 x4
    clear HIN hi hx hix f5 hc5 HC4 HCF HF4 HB4
    have HIN := hide (index_any HC5.out (by simp) mn)
    go_wp2_with fail
    refine HIN.out.mono ?_
    rintro e w6 (⟨hno, _⟩ | ⟨i, x, hi, hx, _, ⟨hix, rfl, f6⟩ | ⟨hix, _⟩⟩)
    · exact absurd rfl (hno _ (List.mem_singleton.2 rfl))
    case inr.inr =>
      obtain ⟨rfl, rfl⟩ := one_get hi
      cases hix
    have HC6 := hide (HC5.out.fr f6 (fun _ _ h => h))
    have HCF6 := hide (HCF5.out.fr f6 (fun _ _ h => h))
    have HF6 := hide (HF5.out.two f6)
    have HB6 := hide (HB5.out.fr f6 (fun h => h))
    have HS6 := hide f6.size
    clear x0 x1 x2 x3 x4
    obtain ⟨x0, x1, x2, x3, x4⟩ := HB6.out.cells
    dsimp only at x0 x1 x2 x3 x4
    clear HIN hi hx hix f6 HC5 HCF5 HF5 HB5
    have HFI := hide (find_any HC6.out (by simp) mn)
    go_wp2_with fail
    refine HFI.out.mono ?_
    rintro e w7 ⟨f7, ⟨hno, _⟩ | ⟨i, x, hi, hx, _, a6, c6, a7, c7, rfl, ht7⟩⟩
    · exact absurd rfl (hno _ (List.mem_singleton.2 rfl))
    obtain ⟨rfl, rfl⟩ := one_get hi
    dsimp only at ht7 ⊢
    unfold Tb.agg
    dsimp only
    obtain ⟨B1, hB1⟩ : ∃ B1, B1 = w7.heap.size := ⟨_, rfl⟩
    obtain ⟨w8, hw8⟩ : ∃ w8, w8 = w7.alloc (.cells #[.int .i64 1, .string mn, .slice a6 cn c6, .slice a7 kn c7, .bool true] 30) := ⟨_, rfl⟩
    have f8 : Fr w7 w8 (fun _ => False) := by rw [hw8]; exact Fr.alloc _ _ _
    have b8 : BoxT w8 B1 ⟨1, mn, a6, cn, c6, mC, a7, kn, c7, mK, true⟩ := by rw [hw8, hB1]; exact heap_alloc_new _ _
    have HX8 := hide b8
    have HTX8 := hide (ht7.lt.fr f8 (fun _ _ h => h))
    rw [← hB1] at HTX8
    have HCF8 := hide (HCF6.out.fr (f7.two f8) (fun _ _ h => h))
    have HF8 := hide (HF6.out.two (f7.two f8))
    have HB8 := hide (HB6.out.fr (f7.two f8) (fun h => h))
    have HS8 : Hid (B0 < B1 ∧ w.heap.size ≤ B1 ∧ w4.heap.size ≤ B1 ∧ B1 < w8.heap.size) := hide (by have := HS5.out; have := HS6.out; have := f7.size; have := (Array.getElem?_eq_some_iff.1 b8).1; have := (Array.getElem?_eq_some_iff.1 HB6.out).1; have := HF6.out.size; omega)
    have HXF : Hid (∀ k, (w3.heap.size ≤ k ∧ k < w4.heap.size) → B0 < k ∧ w.heap.size ≤ k ∧ k < B1) := hide (fun k hk => by have := HS8.out; have := HXW.out gc ⟨.inl rfl, HGX.out.2⟩; omega)
    have HWA := hide hw8
    have HBA := hide hB1
    clear x0 x1 x2 x3 x4
    obtain ⟨x0, x1, x2, x3, x4⟩ := HB8.out.cells
    dsimp only at x0 x1 x2 x3 x4
    clear HFI hi hx f7 ht7 f8 b8 hw8 hB1 HC6 HCF6 HF6 HB6
    have HFI := hide (find_any HCF8.out (by simp) mn)
    go_wp2_with (rw [← HWA.out, ← HBA.out]; clear HWA)
    refine HFI.out.mono ?_
    rintro e w9 ⟨f9, ⟨hno, _⟩ | ⟨i, x, hi, hx, _, b6, d6, b7, d7, rfl, ht9⟩⟩
    · exact absurd rfl (hno _ (List.mem_singleton.2 rfl))
    obtain ⟨rfl, rfl⟩ := one_get hi
    dsimp only at ht9 ⊢
    obtain rfl : mc = cn := by have h1 := ht9.cn; have h2 := HTX8.out.cn; dsimp only at h1 h2; omega
    obtain rfl : mk = kn := by have h1 := ht9.kn; have h2 := HTX8.out.kn; dsimp only at h1 h2; omega
    unfold Tb.agg
    dsimp only
    obtain ⟨B2, hB2⟩ : ∃ B2, B2 = w9.heap.size := ⟨_, rfl⟩
    obtain ⟨wa, hwa⟩ : ∃ wa, wa = w9.alloc (.cells #[.int .i64 1, .string mn, .slice b6 mc d6, .slice b7 mk d7, .bool false] 30) := ⟨_, rfl⟩
    have fa : Fr w9 wa (fun _ => False) := by rw [hwa]; exact Fr.alloc _ _ _
    have ba : BoxT wa B2 ⟨1, mn, b6, mc, d6, mC, b7, mk, d7, mK, false⟩ := by rw [hwa, hB2]; exact heap_alloc_new _ _
    have HXa := hide (HX8.out.fr (f9.two fa) (fun h => h))
    have HTXa := hide (HTX8.out.fr (f9.two fa) (fun _ _ h => h))
    have HTYa := hide (ht9.fr fa (fun _ _ h => h))
    have HCFa := hide (HCF8.out.fr (f9.two fa) (fun _ _ h => h))
    have HFa := hide (HF8.out.two (f9.two fa))
    have HBa := hide (HB8.out.fr (f9.two fa) (fun h => h))
    have HYa := hide ba
    have HSa : Hid (B1 < B2) := hide (by have := HS8.out; have := f9.size; omega)
    have HWA := hide hwa
    have HBA2 := hide hB2
    clear x0 x1 x2 x3 x4
    obtain ⟨y0, y1, y2, y3, y4⟩ := HXa.out.cells
    obtain ⟨z0, z1, z2, z3, z4⟩ := HYa.out.cells
    dsimp only at y0 y1 y2 y3 y4 z0 z1 z2 z3 z4
    -- x.Indexed = false
    obtain ⟨wb, hwb⟩ : ∃ wb, wb = wa.setCell ⟨B1, 4, none⟩ (.bool false) := ⟨_, rfl⟩
    have fb : Fr wa wb (fun k => k = B1) := by rw [hwb]; exact Fr.setCell wa _ _
    have bb : BoxT wb B1 ⟨1, mn, a6, mc, c6, mC, a7, mk, c7, mK, false⟩ := by rw [hwb]; exact heap_setCell_here wa B1 4 (.bool false) _ _ _ HXa.out
    have hfz := HXa.out.frozen 4
    have HS3 : Hid (S3 B0 B1 B2 ⟨id, mn, ca, mc, cc, mC, ka, mk, kc, mK, ix⟩ ⟨1, mn, a6, mc, c6, mC, a7, mk, c7, mK, false⟩ ⟨1, mn, b6, mc, d6, mC, b7, mk, d7, mK, false⟩ wb) := hide ⟨HBa.out.fr fb (fun h => by have := HS8.out; omega), bb, HYa.out.fr fb (fun h => by have := HSa.out; omega)⟩
    have HTXb := hide (HTXa.out.fr fb (fun k hk h => by have h1 : _ ≤ k ∧ k < B1 := hk; omega))
    have HTYb := hide (HTYa.out.fr fb (fun k hk h => by have h1 : w8.heap.size ≤ k := hk; have := HS8.out; omega))
    have HCFb := hide (HCFa.out.fr fb (fun k hk h => by have := HS8.out; have := hk.2; omega))
    have HFb := hide ((HFa.out.trans fb).mono (Y := fun _ => False) (fun k hk h => by rcases h with h | h; exact h; (have := HS8.out; have := HB0.out; omega)))
    have HWB := hide hwb
    clear HFI hi hx f9 ht9 fa ba hwa hB2 fb bb hwb HX8 HTX8 HCF8 HF8 HB8 HXa HTXa HTYa HCFa HFa HBa HYa
    go_wp2_with (first | (rw [← HWA.out, ← HBA2.out]; clear HWA) | (rw [← HWB.out]; clear HWB))
    clear y0 y1 y2 y3 y4 z0 z1 z2 z3 z4 hfz
    refine wp_region_K (fun _ => true) (S3 B0 B1 B2 ⟨id, mn, ca, mc, cc, mC, ka, mk, kc, mK, ix⟩ ⟨1, mn, a6, mc, c6, mC, a7, mk, c7, mK, false⟩ ⟨1, mn, b6, mc, d6, mC, b7, mk, d7, mK, false⟩) (by kernel_rfl) ?_
    have fd := Fr.drew wb (fun _ => False)
    have hS := HS3.out.fr fd (fun h => h) (fun h => h) (fun h => h)
    refine wpAnyK_takeTo 0 (some 86) (.agg #[.int .i64 1, .string mn, .slice a6 mc c6, .slice a7 mk c7, .bool false]) [1, 3, 4, 5, 6, 7, 8, 9, 10, 11, 12] rfl rfl (by kernel_rfl) (by kernel_rfl) (by kernel_rfl) (by kernel_rfl) (fun _ _ _ h => h) hS (Or.inl ⟨rfl, fun w1 hw1 => by obtain ⟨⟨x0, x1, x2, x3, x4⟩, ⟨y0, y1, y2, y3, y4⟩, ⟨z0, z1, z2, z3, z4⟩⟩ := S3.cells hw1; dsimp only at x0 x1 x2 x3 x4 y0 y1 y2 y3 y4 z0 z1 z2 z3 z4; go_simp⟩) ?_
    simp only [Act.put, List.setIfInBounds_toArray, List.set_cons_zero, List.set_cons_succ]
    refine wpAnyK_takeTo 2 (some 88) (.agg #[.int .i64 1, .string mn, .slice b6 mc d6, .slice b7 mk d7, .bool false]) [3, 4, 5, 6, 7, 8, 9, 10, 11, 12] rfl rfl (by kernel_rfl) (by kernel_rfl) (by kernel_rfl) (by kernel_rfl) (fun _ _ _ h => h) hS (Or.inl ⟨rfl, fun w1 hw1 => by obtain ⟨⟨x0, x1, x2, x3, x4⟩, ⟨y0, y1, y2, y3, y4⟩, ⟨z0, z1, z2, z3, z4⟩⟩ := S3.cells hw1; dsimp only at x0 x1 x2 x3 x4 y0 y1 y2 y3 y4 z0 z1 z2 z3 z4; go_simp⟩) ?_
    simp only [Act.put, List.setIfInBounds_toArray, List.set_cons_zero, List.set_cons_succ]
    refine wpAnyK_one (i := 1) (by kernel_rfl) rfl rfl ?_
    refine wp_call_to (some 87) rfl 16 #[.agg #[.int .i64 1, .string mn, .slice a6 mc c6, .slice a7 mk c7, .bool false]] (by go_simp) (plain_any ⟨1, mn, a6, mc, c6, mC, a7, mk, c7, mK, false⟩ wb.drew) ?_
    rintro e V1 ⟨rfl, g1⟩
    replace hS := hS.fr g1 (fun h => h) (fun h => h) (fun h => h)
    refine ⟨_, rfl, fun _ => hS, ?_⟩
    unfold Tb.agg
    simp only [Act.put, List.setIfInBounds_toArray, List.set_cons_zero, List.set_cons_succ]
    refine wpAnyK_one (i := 3) (by kernel_rfl) rfl rfl ?_
    refine wp_call_to (some 89) rfl 16 #[.agg #[.int .i64 1, .string mn, .slice b6 mc d6, .slice b7 mk d7, .bool false]] (by go_simp) (plain_any ⟨1, mn, b6, mc, d6, mC, b7, mk, d7, mK, false⟩ V1) ?_
    rintro e V2 ⟨rfl, g2⟩
    replace hS := hS.fr g2 (fun h => h) (fun h => h) (fun h => h)
    refine ⟨_, rfl, fun _ => hS, ?_⟩
    unfold Tb.agg
    simp only [Act.put, List.setIfInBounds_toArray, List.set_cons_zero, List.set_cons_succ]
    have g3 := (fd.two g1).two g2
    refine wpAnyK_one (i := 4) (by kernel_rfl) rfl rfl ?_
    refine wp_call_to (some 90) rfl 15 #[.agg #[.int .i64 1, .string mn, .slice a6 mc c6, .slice a7 mk c7, .bool false], .agg #[.int .i64 1, .string mn, .slice b6 mc d6, .slice b7 mk d7, .bool false]] (by go_simp) (same_yes 1 mn false mC mK a6 b6 a7 b7 mc c6 d6 mk c7 d7 (HTXb.out.fr g3 (fun _ _ h => h)).idx (HTYb.out.fr g3 (fun _ _ h => h))) ?_
    rintro e V3 ⟨rfl, g4⟩
    replace hS := hS.fr g4 (fun h => h) (fun h => h) (fun h => h)
    refine ⟨_, rfl, fun _ => hS, ?_⟩
    simp only [Act.put, List.setIfInBounds_toArray, List.set_cons_zero, List.set_cons_succ]
    replace g4 := g3.two g4
    have HCF3 := HCFb.out.fr g4 (fun _ _ h => h)
    refine wpAnyK_takeTo 5 (some 91) (.bool true) [6, 7, 8, 9, 10, 11, 12] rfl rfl (by kernel_rfl) (by kernel_rfl) (by kernel_rfl) (by kernel_rfl) (fun _ _ _ h => h) hS (Or.inl ⟨rfl, fun w1 hw1 => by obtain ⟨⟨x0, x1, x2, x3, x4⟩, ⟨y0, y1, y2, y3, y4⟩, ⟨z0, z1, z2, z3, z4⟩⟩ := S3.cells hw1; dsimp only at x0 x1 x2 x3 x4 y0 y1 y2 y3 y4 z0 z1 z2 z3 z4; go_simp⟩) ?_
    simp only [Act.put, List.setIfInBounds_toArray, List.set_cons_zero, List.set_cons_succ]
    refine wpAnyK_takeTo 6 (some 92) (.pointer (some ⟨gf, 0, none⟩)) [9, 10, 11, 12] rfl rfl (by kernel_rfl) (by kernel_rfl) (by kernel_rfl) (by kernel_rfl) (fun _ _ _ h => h) hS (Or.inl ⟨rfl, fun w1 hw1 => by obtain ⟨⟨x0, x1, x2, x3, x4⟩, ⟨y0, y1, y2, y3, y4⟩, ⟨z0, z1, z2, z3, z4⟩⟩ := S3.cells hw1; dsimp only at x0 x1 x2 x3 x4 y0 y1 y2 y3 y4 z0 z1 z2 z3 z4; go_simp⟩) ?_
    simp only [Act.put, List.setIfInBounds_toArray, List.set_cons_zero, List.set_cons_succ]
    refine wpAnyK_takeTo 7 (some 93) (.pointer (some ⟨B0, 1, none⟩)) [8, 9, 10, 11, 12] rfl rfl (by kernel_rfl) (by kernel_rfl) (by kernel_rfl) (by kernel_rfl) (fun _ _ _ h => h) hS (Or.inl ⟨rfl, fun w1 hw1 => by obtain ⟨⟨x0, x1, x2, x3, x4⟩, ⟨y0, y1, y2, y3, y4⟩, ⟨z0, z1, z2, z3, z4⟩⟩ := S3.cells hw1; dsimp only at x0 x1 x2 x3 x4 y0 y1 y2 y3 y4 z0 z1 z2 z3 z4; go_simp⟩) ?_
    simp only [Act.put, List.setIfInBounds_toArray, List.set_cons_zero, List.set_cons_succ]
    refine wpAnyK_takeTo 8 (some 94) (.string mn) [9, 10, 11, 12] rfl rfl (by kernel_rfl) (by kernel_rfl) (by kernel_rfl) (by kernel_rfl) (fun _ _ _ h => h) hS (Or.inl ⟨rfl, fun w1 hw1 => by obtain ⟨⟨x0, x1, x2, x3, x4⟩, ⟨y0, y1, y2, y3, y4⟩, ⟨z0, z1, z2, z3, z4⟩⟩ := S3.cells hw1; dsimp only at x0 x1 x2 x3 x4 y0 y1 y2 y3 y4 z0 z1 z2 z3 z4; go_simp⟩) ?_
    simp only [Act.put, List.setIfInBounds_toArray, List.set_cons_zero, List.set_cons_succ]
    refine wpAnyK_one (i := 9) (by kernel_rfl) rfl rfl ?_
    refine wp_call_to (some 95) rfl 28 #[.pointer (some ⟨gf, 0, none⟩), .string mn] (by go_simp) (index_any HCF3 (by simp) mn) ?_
    rintro e V4 (⟨hno, _⟩ | ⟨i, x, hi, hx, _, ⟨hix, _⟩ | ⟨hix, rfl, f5, hc5⟩⟩)
    · exact absurd rfl (hno _ (List.mem_singleton.2 rfl))
    · obtain ⟨rfl, rfl⟩ := one_get hi
      cases hix
    have HXF := HXF.out
    replace hS := hS.fr f5 (fun h => by have := HXF _ h; omega) (fun h => by have := HXF _ h; omega) (fun h => by have := HXF _ h; have := HSa.out; omega)
    refine ⟨_, rfl, fun _ => hS, ?_⟩
    simp only [Act.put, List.setIfInBounds_toArray, List.set_cons_zero, List.set_cons_succ]
    have HFE := hide ((HFb.out.trans (g4.trans f5)).mono (Y := fun _ => False) (fun k hk h => by
      rcases h with h | h | h
      · exact h
      · exact h
      · have := HXF k h; omega))
    clear hi hx hix hc5 HCF3
    refine wpAnyK_takeTo 10 (some 96) (.bool true) [11, 12] rfl rfl (by kernel_rfl) (by kernel_rfl) (by kernel_rfl) (by kernel_rfl) (fun _ _ _ h => h) hS (Or.inl ⟨rfl, fun w1 hw1 => by obtain ⟨⟨x0, x1, x2, x3, x4⟩, ⟨y0, y1, y2, y3, y4⟩, ⟨z0, z1, z2, z3, z4⟩⟩ := S3.cells hw1; dsimp only at x0 x1 x2 x3 x4 y0 y1 y2 y3 y4 z0 z1 z2 z3 z4; go_simp⟩) ?_
    simp only [Act.put, List.setIfInBounds_toArray, List.set_cons_zero, List.set_cons_succ]
    refine wpAnyK_takeTo 11 (some 97) (.bool true) [12] rfl rfl (by kernel_rfl) (by kernel_rfl) (by kernel_rfl) (by kernel_rfl) (fun _ _ _ h => h) hS (Or.inl ⟨rfl, fun w1 hw1 => by obtain ⟨⟨x0, x1, x2, x3, x4⟩, ⟨y0, y1, y2, y3, y4⟩, ⟨z0, z1, z2, z3, z4⟩⟩ := S3.cells hw1; dsimp only at x0 x1 x2 x3 x4 y0 y1 y2 y3 y4 z0 z1 z2 z3 z4; go_simp⟩) ?_
    simp only [Act.put, List.setIfInBounds_toArray, List.set_cons_zero, List.set_cons_succ]
    refine wpAnyK_takeTo 12 (some 2) (.bool true) [] rfl rfl (by kernel_rfl) (by kernel_rfl) (by kernel_rfl) (by kernel_rfl) (fun _ _ _ h => h) hS (Or.inl ⟨rfl, fun w1 hw1 => by obtain ⟨⟨x0, x1, x2, x3, x4⟩, ⟨y0, y1, y2, y3, y4⟩, ⟨z0, z1, z2, z3, z4⟩⟩ := S3.cells hw1; dsimp only at x0 x1 x2 x3 x4 y0 y1 y2 y3 y4 z0 z1 z2 z3 z4; go_simp⟩) ?_
    simp only [Act.put, List.setIfInBounds_toArray, List.set_cons_zero, List.set_cons_succ]
    refine wpAnyK_done (by kernel_rfl) ?_ _
    go_wp2
    go_ret
    exact ⟨rfl, HFE.out⟩
end Go.Proofs.Ytdeopneififnnaa
