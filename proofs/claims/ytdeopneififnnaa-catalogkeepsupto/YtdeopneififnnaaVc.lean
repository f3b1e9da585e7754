/- CatalogKeeps: the walk. -/
import Derived.Test.YtdeopneififnnaaTa
import Derived.Test.YtdeopneififnnaaVb
namespace Go.Proofs.Ytdeopneififnnaa
open Go.RowKit
set_option maxRecDepth 100000
set_option linter.unusedVariables false
set_option linter.unusedSimpArgs false

/-- A row one of whose cells is to be changed. -/
theorem spoil {w : World} {e : TypeId} {size : Nat} {a : Option Addr} {n c : Nat} {xs : List Value} (h : w.ownsRow 0 e size (.slice a n c) n xs) (j : Nat) (hj : j < xs.length) : ∃ g u, a = some ⟨g, 0, none⟩ ∧ w.cell? ⟨g, j, none⟩ = some u ∧ w.frozen? ⟨g, j, none⟩ = false ∧ ∀ s : Value, (w.setCell ⟨g, j, none⟩ s).ownsRow 0 e size (.slice a n c) n (xs.set j s) ∧ Fr w (w.setCell ⟨g, j, none⟩ s) (fun k => (Value.slice a n c).ownBlock = some k) := by
  obtain ⟨g, rfl, hc⟩ := row_cell h (List.getElem?_eq_getElem hj)
  refine ⟨g, _, rfl, hc, ?_, fun s => ⟨row_set h j s hj, (Fr.setCell w ⟨g, j, none⟩ s).mono (fun k _ hk => by have hk : k = g := hk; rw [hk]; rfl)⟩⟩
  rcases h.2 with ⟨h1, _⟩ | ⟨g', cap, cur, h1, _, hgg, _⟩
  · cases h1
  · cases h1
    simp [World.frozen?, hgg]
/-- Two boxes of tables, one of them the document's. -/
def SD (B D : Nat) (t m : Tb) (U : World) : Prop := BoxT U B t ∧ BoxD U D m
theorem SD.fr {B D : Nat} {t m : Tb} {U V : World} {X : Nat → Prop} (h : SD B D t m U) (hf : Fr U V X) (h0 : ¬ X B) (h1 : ¬ X D) : SD B D t m V := ⟨h.1.fr hf h0, h.2.fr hf h1⟩
theorem SD.cells {B D : Nat} {t x : Tb} {U : World} (h : SD B D t x U) : (U.cell? ⟨B, 0, none⟩ = some (.int .i64 t.id) ∧ U.cell? ⟨B, 1, none⟩ = some (.string t.name) ∧ U.cell? ⟨B, 2, none⟩ = some (.slice t.ca t.cn t.cc) ∧ U.cell? ⟨B, 3, none⟩ = some (.slice t.ka t.kn t.kc) ∧ U.cell? ⟨B, 4, none⟩ = some (.bool t.ix)) ∧ (U.cell? ⟨D, 0, none⟩ = some (.int .i64 x.id) ∧ U.cell? ⟨D, 1, none⟩ = some (.string x.name) ∧ U.cell? ⟨D, 2, none⟩ = some (.slice x.ca x.cn x.cc) ∧ U.cell? ⟨D, 3, none⟩ = some (.slice x.ka x.kn x.kc) ∧ U.cell? ⟨D, 4, none⟩ = some (.bool x.ix)) := ⟨h.1.cells, h.2.cells⟩
/-- What the first Create in a catalog comes to. -/
def CreU (gc : Nat) (nm : ByteArray) (C : List Cn) (K : List ByteArray) (w : World) (e : Ending) (w' : World) : Prop := ∃ (i q : Int) (X : Nat → Prop) (v : Value) (L : List Tb), e = .returned (.tuple #[.int .i64 i, .int .i64 q]) ∧ Cat X w' gc v L ∧ L.length ≤ 1 ∧ (∀ k, X k → (k = gc ∨ w.heap.size ≤ k) ∧ k < w'.heap.size) ∧ Fr w w' (fun k => k = gc) ∧ ((q ≠ 0 ∧ L = []) ∨ (q = 0 ∧ ∃ t : Tb, L = [t] ∧ t.key = (1, nm, C, K, false)))
theorem create_one {P : Nat → Prop} {w : World} {gc : Nat} {v : Value} (h : Cat (fun k => k = gc) w gc v []) (nm : ByteArray) (ca : Option Addr) (cn cc : Nat) (C : List Cn) (ka : Option Addr) (kn kc : Nat) (K : List ByteArray) (ht : TabIn P w ⟨1, nm, ca, cn, cc, C, ka, kn, kc, K, false⟩) :
    Calls Try.prog 12 #[.pointer (some ⟨gc, 0, none⟩), .string nm, .slice ca cn cc, .slice ka kn kc] w (CreU gc nm C K w) := by
  refine (create_any h (by simp) ⟨1, nm, ca, cn, cc, C, ka, kn, kc, K, false⟩ rfl rfl ht).mono ?_
  rintro e w' (⟨hne, rfl, f⟩ | ⟨_, rfl, f, v', a, c, a2, c2, hc⟩)
  · have hl := (h.fr f (fun _ _ h => h)).lt
    exact ⟨0, _, _, v, [], rfl, hl, by simp, fun k hk => ⟨.inl hk.1, hk.2⟩, f.mono (fun _ _ h => h.elim), .inl ⟨hne, rfl⟩⟩
  · exact ⟨1, 0, _, v', _, rfl, hc.lt, by simp, fun k hk => hk, f, .inr ⟨rfl, _, rfl, rfl⟩⟩
set_option maxHeartbeats 32000000 in
theorem keeps_walk {P : Nat → Prop} {w : World} (id : Int) (nm : ByteArray) (ca : Option Addr) (cn cc : Nat) (C : List Cn) (ka : Option Addr) (kn kc : Nat) (K : List ByteArray) (ix : Bool) (ht : TabIn P w (⟨id, nm, ca, cn, cc, C, ka, kn, kc, K, ix⟩ : Tb)) :
    Calls Try.prog 6 #[(⟨id, nm, ca, cn, cc, C, ka, kn, kc, K, ix⟩ : Tb).agg] w fun e w' => e = .returned (.bool true) ∧ Fr w w' (fun _ => False) := by
  replace ht := ht.lt
  obtain ⟨B0, hB0⟩ : ∃ B0, B0 = w.heap.size := ⟨_, rfl⟩
  obtain ⟨w0, hw0⟩ : ∃ w0, w0 = w.alloc (.cells #[.int .i64 id, .string nm, .slice ca cn cc, .slice ka kn kc, .bool ix] 30) := ⟨_, rfl⟩
  have b0 : BoxT w0 B0 (⟨id, nm, ca, cn, cc, C, ka, kn, kc, K, ix⟩ : Tb) := by rw [hw0, hB0]; exact heap_alloc_new w _
  have f0 : Fr w w0 (fun _ => False) := by rw [hw0]; exact Fr.alloc w _ _
  have HT0 := hide (ht.fr f0 (fun _ _ h => h))
  have HB := hide b0
  have HF0 := hide f0
  have HAW := hide (awake_any w0)
  have HW := hide hw0
  have HB0 := hide hB0
  have HL0 : Hid (B0 < w0.heap.size) := hide ((Array.getElem?_eq_some_iff.1 b0).1)
  have hcb : cn ≤ 1048576 := ht.cb
  have hkb : kn ≤ 1048576 := ht.kb
  have HCL : Hid (C.length = cn) := hide ht.cn
  have HKL : Hid (K.length = kn) := hide ht.kn
  clear ht b0 f0 hw0 hB0
  unfold Tb.agg
  dsimp only
  go_enter Try.func6, Try.ntmps6
  go_wp2_with (rw [← HW.out, ← HB0.out]; clear HW)
  refine HAW.out.mono ?_
  rintro e w1 ⟨rfl, f1⟩
  have HF1 := hide (HF0.out.two f1)
  have HT1 := hide (HT0.out.fr f1 (fun _ _ h => h))
  have HB1 := hide (HB.out.fr f1 (fun h => h))
  have HNew := hide (new_any w1)
  obtain ⟨gc, hgc⟩ : ∃ gc, gc = w1.heap.size := ⟨_, rfl⟩
  rw [← hgc] at HNew
  have HGC : Hid (B0 < gc ∧ w.heap.size ≤ gc) := hide (by have := HL0.out; have := f1.size; have := HF1.out.size; omega)
  clear HAW f1 hgc HF0 HT0 HB
  go_wp2_with fail
  refine HNew.out.mono ?_
  rintro e w2 ⟨rfl, f2, hl2, hcat⟩
  have HF2 := hide (HF1.out.two f2)
  have HT2 := hide (HT1.out.fr f2 (fun _ _ h => h))
  have HB2 := hide (HB1.out.fr f2 (fun h => h))
  have HC2 := hide hcat
  have HL2 : Hid (gc < w2.heap.size) := hide ((Array.getElem?_eq_some_iff.1 hcat.box).1)
  obtain ⟨x0, x1, x2, x3, x4⟩ := HB2.out.cells
  dsimp only at x0 x1 x2 x3 x4
  have HPL := hide (plain_any (⟨id, nm, ca, cn, cc, C, ka, kn, kc, K, ix⟩ : Tb) w2)
  unfold Tb.agg at HPL
  dsimp only at HPL
  clear HNew f2 hl2 hcat HF1 HT1 HB1
  go_wp2_with fail
  refine HPL.out.mono ?_
  rintro e w3 ⟨rfl, f3⟩
  have HF3 := hide (HF2.out.two f3)
  have HT3 := hide (HT2.out.fr f3 (fun _ _ h => h))
  have HB3 := hide (HB2.out.fr f3 (fun h => h))
  have HC3 := hide (HC2.out.fr f3 (fun _ _ h => h))
  have HL3 : Hid (gc < w3.heap.size) := hide (by have := HL2.out; have := f3.size; omega)
  have HCP := hide (copy_ref _ HT3.out)
  unfold Tb.agg at HCP
  dsimp only at HCP
  clear HPL f3 HF2 HT2 HB2 HC2 x0 x1 x2 x3 x4
  go_wp2_with fail
  refine HCP.out.mono ?_
  rintro e w4 ⟨a1, c1, a2, c2, rfl, ht4, hr4, f4⟩
  obtain ⟨D1, hD1⟩ : ∃ D1, D1 = w4.heap.size := ⟨_, rfl⟩
  obtain ⟨w5, hw5⟩ : ∃ w5, w5 = w4.alloc (.cells #[.int .i64 id, .string nm, .slice a1 cn c1, .slice a2 kn c2, .bool ix] 43) := ⟨_, rfl⟩
  have f5 : Fr w4 w5 (fun _ => False) := by rw [hw5]; exact Fr.alloc _ _ _
  have b5 : BoxD w5 D1 (⟨id, nm, a1, cn, c1, C, a2, kn, c2, K, ix⟩ : Tb) := by rw [hw5, hD1]; exact heap_alloc_new _ _
  have ht4 := ht4.lt
  have HTM5 := hide (ht4.fr f5 (fun _ _ h => h))
  have HRM5 := hide (hr4.fr ht4 f5 (fun _ _ h => h))
  have HF5 := hide (HF3.out.two (f4.two f5))
  have HT5 := hide (HT3.out.fr (f4.two f5) (fun _ _ h => h))
  have HB5 := hide (HB3.out.fr (f4.two f5) (fun h => h))
  have HD5 := hide b5
  have HS5 : Hid (w3.heap.size ≤ w4.heap.size ∧ w4.heap.size = D1 ∧ D1 < w5.heap.size) := hide ⟨f4.size, hD1.symm, (Array.getElem?_eq_some_iff.1 b5).1⟩
  have HCR := hide (create_one (HC3.out.fr (f4.two f5) (fun _ _ h => h)) nm a1 cn c1 C a2 kn c2 K ⟨HTM5.out.cols, HTM5.out.cn, HTM5.out.cb, HTM5.out.cs, HTM5.out.keys, HTM5.out.kn, HTM5.out.kb, HTM5.out.ks, by unfold In64; dsimp only; omega⟩)
  obtain ⟨x0, x1, x2, x3, x4⟩ := HB5.out.cells
  obtain ⟨y0, y1, y2, y3, y4⟩ := HD5.out.cells
  dsimp only at x0 x1 x2 x3 x4 y0 y1 y2 y3 y4
  have HW := hide hw5
  have HD1 := hide hD1
  clear HCP ht4 hr4 f4 f5 b5 hw5 hD1 HF3 HT3 HB3 HC3
  dsimp only
  go_wp2_with (rw [← HW.out, ← HD1.out]; clear HW)
  refine HCR.out.mono ?_
  rintro e w6 ⟨i6, q, X, v6, L, rfl, hc6, hL1, hX, f6, hq⟩
  have HC6 := hide hc6
  have HX := hide hX
  have HQ := hide hq
  have HLL := hide hL1
  have HF6 := hide ((HF5.out.trans f6).mono (Y := fun _ => False) (fun k hk h => by rcases h with h | h; exact h; (have := HGC.out; omega)))
  have HT6 := hide (HT5.out.fr f6 (fun k hk h => by have h1 : P k ∧ k < w.heap.size := hk; have := HGC.out; omega))
  have HTM6 := hide (HTM5.out.fr f6 (fun k hk h => by have h1 : w3.heap.size ≤ k ∧ k < w4.heap.size := hk; have := HL3.out; omega))
  have HRM6 := hide (HRM5.out.fr HTM5.out f6 (fun k hk h => by have h1 : w3.heap.size ≤ k ∧ k < w4.heap.size := hk; have := HL3.out; omega))
  have HSD : Hid (SD B0 D1 (⟨id, nm, ca, cn, cc, C, ka, kn, kc, K, ix⟩ : Tb) (⟨id, nm, a1, cn, c1, C, a2, kn, c2, K, ix⟩ : Tb) w6) := hide ⟨HB5.out.fr f6 (fun h => by have := HGC.out; omega), HD5.out.fr f6 (fun h => by have := HL3.out; have := HS5.out; omega)⟩
  have HSD6 := HSD
  have HS6 := hide f6.size
  clear HCR hc6 hX hq hL1 f6 HF5 HT5 HB5 HD5 HTM5 HRM5 x0 x1 x2 x3 x4 y0 y1 y2 y3 y4
  go_wp2_with fail
  refine wp_region_K (fun _ => true) (SD B0 D1 (⟨id, nm, ca, cn, cc, C, ka, kn, kc, K, ix⟩ : Tb) (⟨id, nm, a1, cn, c1, C, a2, kn, c2, K, ix⟩ : Tb)) (by kernel_rfl) ?_
  have fd := Fr.drew w6 (fun _ => False)
  have hS := HSD.out.fr fd (fun h => h) (fun h => h)
  refine wpAnyK_takeTo 0 (some 34) (.agg #[.int .i64 id, .string nm, .slice a1 cn c1, .slice a2 kn c2, .bool ix]) [3, 4] rfl rfl (by kernel_rfl) (by kernel_rfl) (by kernel_rfl) (by kernel_rfl) (fun _ _ _ h => h) hS (Or.inl ⟨rfl, fun w1 hw1 => by obtain ⟨⟨x0, x1, x2, x3, x4⟩, ⟨y0, y1, y2, y3, y4⟩⟩ := SD.cells hw1; dsimp only at x0 x1 x2 x3 x4 y0 y1 y2 y3 y4; go_simp⟩) ?_
  simp only [Act.put, List.setIfInBounds_toArray, List.set_cons_zero, List.set_cons_succ]
  refine wpAnyK_takeTo 1 (some 35) (.agg #[.int .i64 id, .string nm, .slice ca cn cc, .slice ka kn kc, .bool ix]) [2, 3, 4] rfl rfl (by kernel_rfl) (by kernel_rfl) (by kernel_rfl) (by kernel_rfl) (fun _ _ _ h => h) hS (Or.inl ⟨rfl, fun w1 hw1 => by obtain ⟨⟨x0, x1, x2, x3, x4⟩, ⟨y0, y1, y2, y3, y4⟩⟩ := SD.cells hw1; dsimp only at x0 x1 x2 x3 x4 y0 y1 y2 y3 y4; go_simp⟩) ?_
  simp only [Act.put, List.setIfInBounds_toArray, List.set_cons_zero, List.set_cons_succ]
  refine wpAnyK_one (i := 2) (by kernel_rfl) rfl rfl ?_
  refine wp_call_to (some 36) rfl 16 #[.agg #[.int .i64 id, .string nm, .slice ca cn cc, .slice ka kn kc, .bool ix]] (by go_simp) (plain_any (⟨id, nm, ca, cn, cc, C, ka, kn, kc, K, ix⟩ : Tb) w6.drew) ?_
  rintro e V1 ⟨rfl, g1⟩
  replace hS := hS.fr g1 (fun h => h) (fun h => h)
  refine ⟨_, rfl, fun _ => hS, ?_⟩
  unfold Tb.agg
  simp only [Act.put, List.setIfInBounds_toArray, List.set_cons_zero, List.set_cons_succ]
  have g3 := fd.two g1
  refine wpAnyK_one (i := 3) (by kernel_rfl) rfl rfl ?_
  refine wp_call_to (some 37) rfl 15 #[.agg #[.int .i64 id, .string nm, .slice a1 cn c1, .slice a2 kn c2, .bool ix], .agg #[.int .i64 id, .string nm, .slice ca cn cc, .slice ka kn kc, .bool ix]] (by go_simp) (same_yes id nm ix C K a1 ca a2 ka cn c1 cc kn c2 kc (HTM6.out.fr g3 (fun _ _ h => h)) (HT6.out.fr g3 (fun _ _ h => h))) ?_
  rintro e w8 ⟨rfl, g4⟩
  replace hS := hS.fr g4 (fun h => h) (fun h => h)
  refine ⟨_, rfl, fun _ => hS, ?_⟩
  simp only [Act.put, List.setIfInBounds_toArray, List.set_cons_zero, List.set_cons_succ]
  have HG8 := hide (g3.two g4)
  refine wpAnyK_takeTo 4 (some 38) (.bool false) [] rfl rfl (by kernel_rfl) (by kernel_rfl) (by kernel_rfl) (by kernel_rfl) (fun _ _ _ h => h) hS (Or.inl ⟨rfl, fun w1 hw1 => by obtain ⟨⟨x0, x1, x2, x3, x4⟩, ⟨y0, y1, y2, y3, y4⟩⟩ := SD.cells hw1; dsimp only at x0 x1 x2 x3 x4 y0 y1 y2 y3 y4; go_simp⟩) ?_
  simp only [Act.put, List.setIfInBounds_toArray, List.set_cons_zero, List.set_cons_succ]
  refine wpAnyK_done (by kernel_rfl) ?_ _
  clear hS fd g1 g3 g4 HSD
  have HSD8 := hide (HSD6.out.fr HG8.out (fun h => h) (fun h => h))
  have HC8 := hide (HC6.out.fr HG8.out (fun _ _ h => h))
  have HF8 := hide (HF6.out.two HG8.out)
  have HT8 := hide (HT6.out.fr HG8.out (fun _ _ h => h))
  have HTM8 := hide (HTM6.out.fr HG8.out (fun _ _ h => h))
  have HRM8 := hide (HRM6.out.fr HTM6.out HG8.out (fun _ _ h => h))
  have HS8 : Hid (w5.heap.size ≤ w8.heap.size ∧ w6.heap.size ≤ w8.heap.size) := hide (by have := HS6.out; have := HG8.out.size; omega)
  clear HG8 HSD6 HC6 HF6 HT6 HTM6 HRM6
  obtain ⟨⟨x0, x1, x2, x3, x4⟩, ⟨y0, y1, y2, y3, y4⟩⟩ := HSD8.out.cells
  dsimp only at x0 x1 x2 x3 x4 y0 y1 y2 y3 y4
  have HKC : Hid (∀ k, (Value.slice a1 cn c1).ownBlock = some k → w3.heap.size ≤ k ∧ k < w4.heap.size) := hide (fun k hk => HTM8.out.ownC hk)
  have HKK : Hid (∀ k, (Value.slice a2 kn c2).ownBlock = some k → w3.heap.size ≤ k ∧ k < w4.heap.size) := hide (fun k hk => HTM8.out.ownK hk)
  have HCK : Hid (∀ k, (Value.slice a1 cn c1).ownBlock = some k → ¬ (Value.slice a2 kn c2).ownBlock = some k) := hide (fun k h1 h2 => by
    have r1 := HRM8.out.1.2
    have r2 := HRM8.out.2.2
    dsimp only at r1 r2
    rcases r1 with ⟨r1, _⟩ | ⟨g1, cap1, cur1, r1, _, hg1, _⟩
    · rw [r1] at h1; cases h1
    · rw [r1] at h1; cases h1
      rcases r2 with ⟨r2, _⟩ | ⟨g2, cap2, cur2, r2, _, hg2, _⟩
      · rw [r2] at h2; cases h2
      · rw [r2] at h2; cases h2
        rw [hg1] at hg2; cases hg2)
  go_wp2_with fail
  go_loopw [42] (fun ix wr => ∃ j : Nat, j ≤ cn ∧ ix = .int .i64 (j : Int) ∧ (∃ xs, wr.ownsRow 0 37 2 (.slice a1 cn c1) cn xs ∧ xs.length = cn * 2) ∧ Fr w8 wr (fun k => (Value.slice a1 cn c1).ownBlock = some k)) (fun ix _ => cn - (intOf ix).toNat)
  case atStart => exact ⟨0, Nat.zero_le _, rfl, ⟨_, HRM8.out.1, by rw [encC_length]; dsimp only; rw [HCL.out]⟩, Fr.refl _ _⟩
  case round =>
    rename World => W
    obtain ⟨j, hj, rfl, ⟨xs, hrow, hxs⟩, hf⟩ := hrel
    have HFW := hide hf
    have HRW := hide hrow
    have HXS := hide hxs
    have HSDW := hide (HSD8.out.fr hf (fun h => by have := HKC.out _ h; have := HGC.out; have := HL3.out; omega) (fun h => by have := HKC.out _ h; have := HS5.out; omega))
    clear hf hrow hxs x0 x1 x2 x3 x4 y0 y1 y2 y3 y4
    obtain ⟨⟨x0, x1, x2, x3, x4⟩, ⟨y0, y1, y2, y3, y4⟩⟩ := HSDW.out.cells
    dsimp only at x0 x1 x2 x3 x4 y0 y1 y2 y3 y4
    rcases Nat.lt_or_ge j cn with hlt | hge
    · obtain ⟨g, u, ha, hcell, hfz, hset⟩ := spoil HRW.out (j * 2) (by rw [HXS.out]; omega)
      obtain ⟨hs1, hs2⟩ := hset (.string ⟨#[83, 80, 79, 73, 76, 84]⟩)
      have HR2 := hide hs1
      have HF2 := hide ((HFW.out.trans hs2).mono (Y := fun k => (Value.slice a1 cn c1).ownBlock = some k) (fun k _ h => h.elim (fun h => h) (fun h => h)))
      rw [ha] at y2
      clear hset hs1 hs2
      go_wp2
      go_roundw
      case rel => exact ⟨j + 1, by omega, by go_num, ⟨_, HR2.out, by rw [List.length_set, HXS.out]⟩, HF2.out⟩
      case measure => simp [intOf]; omega
    · have hcj : ¬ ((j : Int) < (cn : Int)) := by omega
      have hcjb : decide ((j : Int) < (cn : Int)) = false := by simp; omega
      have HRK := hide (ownsRow_fr HRM8.out.2 HFW.out (fun k h1 h2 => HCK.out k h2 h1))
      go_wp2_with fail
      go_loopw [54] (fun ix wr => ∃ j : Nat, j ≤ kn ∧ ix = .int .i64 (j : Int) ∧ (∃ xs, wr.ownsRow 0 9 1 (.slice a2 kn c2) kn xs ∧ xs.length = kn) ∧ Fr w8 wr (fun k => (Value.slice a1 cn c1).ownBlock = some k ∨ (Value.slice a2 kn c2).ownBlock = some k)) (fun ix _ => kn - (intOf ix).toNat)
      case atStart => exact ⟨0, Nat.zero_le _, rfl, ⟨_, HRK.out, by rw [List.length_map]; exact HKL.out⟩, HFW.out.mono (fun k _ h => .inl h)⟩
      case round =>
        rename World => Y
        obtain ⟨j, hj, rfl, ⟨xs, hrow, hxs⟩, hf⟩ := hrel
        have HFY := hide hf
        have HRY := hide hrow
        have HXS2 := hide hxs
        have HAY : Hid (∀ k, ((Value.slice a1 cn c1).ownBlock = some k ∨ (Value.slice a2 kn c2).ownBlock = some k) → w3.heap.size ≤ k ∧ k < w4.heap.size) := hide (fun k h => h.elim (HKC.out k) (HKK.out k))
        have HSDY := hide (HSD8.out.fr hf (fun h => by have := HAY.out _ h; have := HGC.out; have := HL3.out; omega) (fun h => by have := HAY.out _ h; have := HS5.out; omega))
        clear hf hrow hxs x0 x1 x2 x3 x4 y0 y1 y2 y3 y4
        obtain ⟨⟨x0, x1, x2, x3, x4⟩, ⟨y0, y1, y2, y3, y4⟩⟩ := HSDY.out.cells
        dsimp only at x0 x1 x2 x3 x4 y0 y1 y2 y3 y4
        rcases Nat.lt_or_ge j kn with hlt | hge2
        · obtain ⟨g, u, ha, hcell, hfz, hset⟩ := spoil HRY.out j (by rw [HXS2.out]; omega)
          obtain ⟨hs1, hs2⟩ := hset (.string ⟨#[83, 80, 79, 73, 76, 84]⟩)
          have HR2 := hide hs1
          have HF2 := hide ((HFY.out.trans hs2).mono (Y := fun k => (Value.slice a1 cn c1).ownBlock = some k ∨ (Value.slice a2 kn c2).ownBlock = some k) (fun k _ h => h.elim (fun h => h) .inr))
          rw [ha] at y3
          clear hset hs1 hs2
          go_wp2
          go_roundw
          case rel => exact ⟨j + 1, by omega, by go_num, ⟨_, HR2.out, by rw [List.length_set, HXS2.out]⟩, HF2.out⟩
          case measure => simp [intOf]; omega
        · have hck : ¬ ((j : Int) < (kn : Int)) := by omega
          have hckb : decide ((j : Int) < (kn : Int)) = false := by simp; omega
          have HCY := hide (HC8.out.fr HFY.out (fun k hk h => by have := HAY.out k h; have := HX.out k hk; have := HL3.out; have := HS5.out; omega))
          have HTY := hide (HT8.out.fr HFY.out (fun k hk h => by have h1 : P k ∧ k < w.heap.size := hk; have := HAY.out k h; have := HGC.out; have := HL3.out; omega))
          have HFN := hide ((HF8.out.trans HFY.out).mono (Y := fun _ => False) (fun k hk h => by rcases h with h | h; exact h; (have := HAY.out k h; have := HGC.out; have := HL3.out; omega)))
          have HBY := hide HSDY.out.1
          have HSY : Hid (w5.heap.size ≤ Y.heap.size ∧ w6.heap.size ≤ Y.heap.size) := hide (by have := HS8.out; have := HFY.out.size; omega)
          have HFI := hide (find_row HCY.out (by have := HLL.out; omega) nm)
          clear HFW HRW HXS HSDW HRK HFY HRY HXS2 HSDY HSD8 HC8 HF8 HT8 HTM8 HRM8 y0 y1 y2 y3 y4
          go_wp2_with fail
          refine HFI.out.mono ?_
          rintro e y1 ⟨f1, hpost⟩
          rcases HQ.out with ⟨hq0, hL⟩ | ⟨hq0, t2, hL, hk2⟩
          · subst hL
            rcases hpost with ⟨_, rfl⟩ | ⟨i, x, hi, _⟩
            case inr => simp at hi
            have hqb : (q == 0) = false := by simpa using hq0
            have hqn : (q != 0) = true := by simpa using hq0
            have HFE := hide (HFN.out.two f1)
            clear HFI f1 HQ x0 x1 x2 x3 x4
            unfold Tb.agg zeroT
            go_wp2
            go_ret
            exact ⟨rfl, HFE.out.two (Fr.alloc _ _ _)⟩
          · subst hL
            subst hq0
            rcases hpost with ⟨hno, _⟩ | ⟨i, x, hi, hx, _, a3, c3, a4, c4, rfl, ht3, hr3⟩
            · simp only [Tb.key, Prod.mk.injEq] at hk2
              exact absurd hk2.2.1 (hno _ (List.mem_singleton.2 rfl))
            obtain ⟨rfl, rfl⟩ := one_get hi
            obtain ⟨ti, tn, ta, tcn, tcc, tC, tk, tkn, tkc, tK, tx⟩ := t2
            simp only [Tb.key, Prod.mk.injEq] at hk2
            obtain ⟨rfl, rfl, rfl, rfl, rfl⟩ := hk2
            obtain rfl : tcn = cn := by have h1 := ht3.cn; have h2 := HCL.out; dsimp only at h1 h2; omega
            obtain rfl : tkn = kn := by have h1 := ht3.kn; have h2 := HKL.out; dsimp only at h1 h2; omega
            have HSV : Hid (w.heap.size ≤ Y.heap.size ∧ B0 < Y.heap.size ∧ w6.heap.size ≤ Y.heap.size) := hide (by have := HGC.out; have := HL3.out; have := HS5.out; have := HSY.out; omega)
            dsimp only at ht3 hr3
            replace ht3 := ht3.lt
            unfold Tb.agg
            dsimp only
            obtain ⟨B3, hB3⟩ : ∃ B3, B3 = y1.heap.size := ⟨_, rfl⟩
            obtain ⟨y2, hy2⟩ : ∃ y2, y2 = y1.alloc (.cells #[.int .i64 1, .string tn, .slice a3 tcn c3, .slice a4 tkn c4, .bool false] 30) := ⟨_, rfl⟩
            have f2 : Fr y1 y2 (fun _ => False) := by rw [hy2]; exact Fr.alloc _ _ _
            have b2 : BoxT y2 B3 (⟨1, tn, a3, tcn, c3, tC, a4, tkn, c4, tK, false⟩ : Tb) := by rw [hy2, hB3]; exact heap_alloc_new _ _
            have HTX2 := hide (ht3.fr f2 (fun _ _ h => h))
            have HRX2 := hide (hr3.fr ht3 f2 (fun _ _ h => h))
            have HX2 := hide b2
            have HC2 := hide (HCY.out.fr (f1.two f2) (fun _ _ h => h))
            have HT2 := hide (HTY.out.fr (f1.two f2) (fun _ _ h => h))
            have HB2 := hide (HBY.out.fr (f1.two f2) (fun h => h))
            have HF2 := hide (HFN.out.two (f1.two f2))
            have HS2 : Hid (Y.heap.size ≤ y1.heap.size ∧ y1.heap.size = B3 ∧ B3 < y2.heap.size) := hide ⟨f1.size, hB3.symm, (Array.getElem?_eq_some_iff.1 b2).1⟩
            have HPL := hide (plain_any (⟨id, tn, ca, tcn, cc, tC, ka, tkn, kc, tK, ix⟩ : Tb) y2)
            unfold Tb.agg at HPL
            dsimp only at HPL
            have HW := hide hy2
            have HBB := hide hB3
            clear x0 x1 x2 x3 x4
            obtain ⟨x0, x1, x2, x3, x4⟩ := HB2.out.cells
            dsimp only at x0 x1 x2 x3 x4
            clear HFI hi hx f1 f2 ht3 hr3 b2 hy2 hB3 HCY HTY HBY HFN
            go_wp2_with (rw [← HW.out, ← HBB.out]; clear HW)
            refine HPL.out.mono ?_
            rintro e y3 ⟨rfl, f3⟩
            obtain ⟨D2, hD2⟩ : ∃ D2, D2 = y3.heap.size := ⟨_, rfl⟩
            obtain ⟨y5, hy5⟩ : ∃ y5, y5 = y3.alloc (.cells #[.int .i64 1, .string tn, .slice ca tcn cc, .slice ka tkn kc, .bool false] 43) := ⟨_, rfl⟩
            have f5 : Fr y3 y5 (fun _ => False) := by rw [hy5]; exact Fr.alloc _ _ _
            have b5 : BoxD y5 D2 (⟨1, tn, ca, tcn, cc, tC, ka, tkn, kc, tK, false⟩ : Tb) := by rw [hy5, hD2]; exact heap_alloc_new _ _
            have g5 := f3.two f5
            have HTX5 := hide (HTX2.out.fr g5 (fun _ _ h => h))
            have HRX5 := hide (HRX2.out.fr HTX2.out g5 (fun _ _ h => h))
            have HC5 := hide (HC2.out.fr g5 (fun _ _ h => h))
            have HT5 : Hid (TabIn (fun k => P k ∧ k < w.heap.size) y5 (⟨1, tn, ca, tcn, cc, tC, ka, tkn, kc, tK, false⟩ : Tb)) := hide (by have h := HT2.out.fr g5 (fun _ _ h => h); exact ⟨h.cols, h.cn, h.cb, h.cs, h.keys, h.kn, h.kb, h.ks, by unfold In64; dsimp only; omega⟩)
            have HB5 := hide (HB2.out.fr g5 (fun h => h))
            have HF5 := hide (HF2.out.two g5)
            have HSD : Hid (SD B3 D2 (⟨1, tn, a3, tcn, c3, tC, a4, tkn, c4, tK, false⟩ : Tb) (⟨1, tn, ca, tcn, cc, tC, ka, tkn, kc, tK, false⟩ : Tb) y5) := hide ⟨HX2.out.fr g5 (fun h => h), b5⟩
            have HSD5 := HSD
            have HS9 : Hid (B3 < D2 ∧ D2 < y5.heap.size) := hide (by have := HS2.out; have := f3.size; have := (Array.getElem?_eq_some_iff.1 b5).1; omega)
            have HW := hide hy5
            have HDD := hide hD2
            clear HPL f3 f5 g5 b5 hy5 hD2 HTX2 HRX2 HC2 HT2 HB2 HF2 HX2 x0 x1 x2 x3 x4
            go_wp2_with (rw [← HW.out, ← HDD.out]; clear HW)
            refine wp_region_K (fun _ => true) (SD B3 D2 (⟨1, tn, a3, tcn, c3, tC, a4, tkn, c4, tK, false⟩ : Tb) (⟨1, tn, ca, tcn, cc, tC, ka, tkn, kc, tK, false⟩ : Tb)) (by kernel_rfl) ?_
            have fd := Fr.drew y5 (fun _ => False)
            have hS := HSD.out.fr fd (fun h => h) (fun h => h)
            refine wpAnyK_takeTo 0 (some 77) (.agg #[.int .i64 1, .string tn, .slice a3 tcn c3, .slice a4 tkn c4, .bool false]) [1, 3, 4] rfl rfl (by kernel_rfl) (by kernel_rfl) (by kernel_rfl) (by kernel_rfl) (fun _ _ _ h => h) hS (Or.inl ⟨rfl, fun w1 hw1 => by obtain ⟨⟨x0, x1, x2, x3, x4⟩, ⟨y0, y1, y2, y3, y4⟩⟩ := SD.cells hw1; dsimp only at x0 x1 x2 x3 x4 y0 y1 y2 y3 y4; go_simp⟩) ?_
            simp only [Act.put, List.setIfInBounds_toArray, List.set_cons_zero, List.set_cons_succ]
            refine wpAnyK_takeTo 2 (some 79) (.agg #[.int .i64 1, .string tn, .slice ca tcn cc, .slice ka tkn kc, .bool false]) [3, 4] rfl rfl (by kernel_rfl) (by kernel_rfl) (by kernel_rfl) (by kernel_rfl) (fun _ _ _ h => h) hS (Or.inl ⟨rfl, fun w1 hw1 => by obtain ⟨⟨x0, x1, x2, x3, x4⟩, ⟨y0, y1, y2, y3, y4⟩⟩ := SD.cells hw1; dsimp only at x0 x1 x2 x3 x4 y0 y1 y2 y3 y4; go_simp⟩) ?_
            simp only [Act.put, List.setIfInBounds_toArray, List.set_cons_zero, List.set_cons_succ]
            refine wpAnyK_one (i := 1) (by kernel_rfl) rfl rfl ?_
            refine wp_call_to (some 78) rfl 16 #[.agg #[.int .i64 1, .string tn, .slice a3 tcn c3, .slice a4 tkn c4, .bool false]] (by go_simp) (plain_any (⟨1, tn, a3, tcn, c3, tC, a4, tkn, c4, tK, false⟩ : Tb) y5.drew) ?_
            rintro e V3 ⟨rfl, g1⟩
            replace hS := hS.fr g1 (fun h => h) (fun h => h)
            refine ⟨_, rfl, fun _ => hS, ?_⟩
            unfold Tb.agg
            simp only [Act.put, List.setIfInBounds_toArray, List.set_cons_zero, List.set_cons_succ]
            have g3 := fd.two g1
            refine wpAnyK_one (i := 3) (by kernel_rfl) rfl rfl ?_
            refine wp_call_to (some 80) rfl 15 #[.agg #[.int .i64 1, .string tn, .slice a3 tcn c3, .slice a4 tkn c4, .bool false], .agg #[.int .i64 1, .string tn, .slice ca tcn cc, .slice ka tkn kc, .bool false]] (by go_simp) (same_yes 1 tn false tC tK a3 ca a4 ka tcn c3 cc tkn c4 kc (HTX5.out.fr g3 (fun _ _ h => h)) (HT5.out.fr g3 (fun _ _ h => h))) ?_
            rintro e y8 ⟨rfl, g4⟩
            replace hS := hS.fr g4 (fun h => h) (fun h => h)
            refine ⟨_, rfl, fun _ => hS, ?_⟩
            simp only [Act.put, List.setIfInBounds_toArray, List.set_cons_zero, List.set_cons_succ]
            have HG8 := hide (g3.two g4)
            refine wpAnyK_takeTo 4 (some 81) (.bool false) [] rfl rfl (by kernel_rfl) (by kernel_rfl) (by kernel_rfl) (by kernel_rfl) (fun _ _ _ h => h) hS (Or.inl ⟨rfl, fun w1 hw1 => by obtain ⟨⟨x0, x1, x2, x3, x4⟩, ⟨y0, y1, y2, y3, y4⟩⟩ := SD.cells hw1; dsimp only at x0 x1 x2 x3 x4 y0 y1 y2 y3 y4; go_simp⟩) ?_
            simp only [Act.put, List.setIfInBounds_toArray, List.set_cons_zero, List.set_cons_succ]
            refine wpAnyK_done (by kernel_rfl) ?_ _
            clear hS fd g1 g3 g4 HSD
            have HSD8 := hide (HSD5.out.fr HG8.out (fun h => h) (fun h => h))
            have HC8 := hide (HC5.out.fr HG8.out (fun _ _ h => h))
            have HF8 := hide (HF5.out.two HG8.out)
            have HT8 := hide (HT5.out.fr HG8.out (fun _ _ h => h))
            have HB8 := hide (HB5.out.fr HG8.out (fun h => h))
            have HTX8 := hide (HTX5.out.fr HG8.out (fun _ _ h => h))
            have HRX8 := hide (HRX5.out.fr HTX5.out HG8.out (fun _ _ h => h))
            have HS10 : Hid (D2 < y8.heap.size) := hide (by have := HS9.out; have := HG8.out.size; omega)
            clear HG8 HSD5 HC5 HF5 HT5 HB5 HTX5 HRX5
            obtain ⟨⟨x0, x1, x2, x3, x4⟩, ⟨z0, z1, z2, z3, z4⟩⟩ := HSD8.out.cells
            dsimp only at x0 x1 x2 x3 x4 z0 z1 z2 z3 z4
            have HKC3 : Hid (∀ k, (Value.slice a3 tcn c3).ownBlock = some k → Y.heap.size ≤ k ∧ k < y1.heap.size) := hide (fun k hk => HTX8.out.ownC hk)
            go_wp2_with fail
            go_loopw [85] (fun ix wr => ∃ j : Nat, j ≤ tcn ∧ ix = .int .i64 (j : Int) ∧ (∃ xs, wr.ownsRow 0 37 2 (.slice a3 tcn c3) tcn xs ∧ xs.length = tcn * 2) ∧ Fr y8 wr (fun k => (Value.slice a3 tcn c3).ownBlock = some k)) (fun ix _ => tcn - (intOf ix).toNat)
            case atStart => exact ⟨0, Nat.zero_le _, rfl, ⟨_, HRX8.out.1, by rw [encC_length]; dsimp only; rw [HCL.out]⟩, Fr.refl _ _⟩
            case round =>
              rename World => W
              obtain ⟨j, hj, rfl, ⟨xs, hrow, hxs⟩, hf⟩ := hrel
              have HFW := hide hf
              have HRW := hide hrow
              have HXS := hide hxs
              have HSDW := hide (HSD8.out.fr hf (fun h => by have := HKC3.out _ h; have := HS2.out; omega) (fun h => by have := HKC3.out _ h; have := HS2.out; have := HS9.out; omega))
              clear hf hrow hxs x0 x1 x2 x3 x4 z0 z1 z2 z3 z4
              obtain ⟨⟨x0, x1, x2, x3, x4⟩, ⟨z0, z1, z2, z3, z4⟩⟩ := HSDW.out.cells
              dsimp only at x0 x1 x2 x3 x4 z0 z1 z2 z3 z4
              rcases Nat.lt_or_ge j tcn with hlt | hge
              · obtain ⟨g, u, ha, hcell, hfz, hset⟩ := spoil HRW.out (j * 2) (by rw [HXS.out]; omega)
                obtain ⟨hs1, hs2⟩ := hset (.string ⟨#[83, 80, 79, 73, 76, 84]⟩)
                have HR2 := hide hs1
                have HF2 := hide ((HFW.out.trans hs2).mono (Y := fun k => (Value.slice a3 tcn c3).ownBlock = some k) (fun k _ h => h.elim (fun h => h) (fun h => h)))
                rw [ha] at x2
                clear hset hs1 hs2
                go_wp2
                go_roundw
                case rel => exact ⟨j + 1, by omega, by go_num, ⟨_, HR2.out, by rw [List.length_set, HXS.out]⟩, HF2.out⟩
                case measure => simp [intOf]; omega
              · have hcj3 : ¬ ((j : Int) < (tcn : Int)) := by omega
                have hcj3b : decide ((j : Int) < (tcn : Int)) = false := by simp; omega
                have HCW := hide (HC8.out.fr HFW.out (fun k hk h => by have := HKC3.out k h; have := HX.out k hk; have := HSY.out; have := HSV.out; omega))
                have HTW := hide (HT8.out.fr HFW.out (fun k hk h => by have h1 : P k ∧ k < w.heap.size := hk; have := HKC3.out k h; have := HSV.out; omega))
                have HBW := hide (HB8.out.fr HFW.out (fun h => by have := HKC3.out _ h; have := HSV.out; omega))
                have HFZ := hide ((HF8.out.trans HFW.out).mono (Y := fun _ => False) (fun k hk h => by rcases h with h | h; exact h; (have := HKC3.out k h; have := HSV.out; omega)))
                have HSW : Hid (D2 < W.heap.size) := hide (by have := HS10.out; have := HFW.out.size; omega)
                have HTA := hide (tables_row HCW.out (by simp))
                clear HFW HRW HXS HSD8 HC8 HF8 HT8 HB8 HTX8 HRX8 x0 x1 x2 x3 x4 z0 z1 z2 z3 z4
                simp only [List.length_cons, List.length_nil, Nat.zero_add] at HTA
                go_wp2_with fail
                refine HTA.out.mono ?_
                rintro e V1 ⟨al, cl, M, rfl, hcp⟩
                obtain ⟨m, rfl⟩ : ∃ m : Tb, M = [m] := by
                  have := hcp.toCopies.len
                  cases M with
                  | nil => simp at this
                  | cons m M =>
                    cases M with
                    | nil => exact ⟨m, rfl⟩
                    | cons _ _ => simp at this
                obtain ⟨al', cl', hal, hat⟩ := rows_at hcp.row
                simp only [List.length_cons, List.length_nil, Nat.zero_add, Value.slice.injEq] at hal
                obtain ⟨rfl, _, rfl⟩ := hal
                obtain ⟨gl, rfl, hat0⟩ := hat 0 m rfl
                rw [Nat.zero_mul] at hat0
                have HAT := hide hat0
                have HTM := hide (hcp.tabs m (List.mem_singleton.2 rfl))
                have HRM := hide (hcp.rows m (List.mem_singleton.2 rfl))
                obtain ⟨mi, mn, ma, mcn, mcc, mC, mk, mkn, mkc, mK, mx⟩ := m
                have hmK : mK.length = mkn := HTM.out.kn
                have hmkb : mkn ≤ 1048576 := HTM.out.kb
                have HMK := hide hmK
                have HGL : Hid (∀ k, (Value.slice mk mkn mkc).ownBlock = some k → W.heap.size ≤ k ∧ k ≠ gl) := hide (fun k hk => by
                  have h := HTM.out.ownK hk
                  exact ⟨h.1, fun e => h.2 (by rw [e]; rfl)⟩)
                have HCV := hide (HCW.out.fr hcp.fr (fun _ _ h => h))
                have HTV := hide (HTW.out.fr hcp.fr (fun _ _ h => h))
                have HBV := hide (HBW.out.fr hcp.fr (fun h => h))
                have HDV := hide (HSDW.out.2.fr hcp.fr (fun h => h))
                have HFV := hide (HFZ.out.two hcp.fr)
                have HGW : Hid (W.heap.size ≤ gl) := hide (hcp.fresh gl rfl)
                obtain ⟨m0, m1, m2, m3, m4⟩ := HAT.out
                dsimp only at m0 m1 m2 m3 m4
                clear HTA hcp hat hat0 hmK HCW HTW HBW HFZ HSDW
                go_wp2_with fail
                go_loopw [101] (fun ix wr => ∃ j : Nat, j ≤ mkn ∧ ix = .int .i64 (j : Int) ∧ (∃ xs, wr.ownsRow 0 9 1 (.slice mk mkn mkc) mkn xs ∧ xs.length = mkn) ∧ Fr V1 wr (fun k => (Value.slice mk mkn mkc).ownBlock = some k)) (fun ix _ => mkn - (intOf ix).toNat)
                case atStart => exact ⟨0, Nat.zero_le _, rfl, ⟨_, HRM.out.2, by rw [List.length_map]; exact HMK.out⟩, Fr.refl _ _⟩
                case round =>
                  rename World => Z
                  obtain ⟨j, hj, rfl, ⟨xs, hrow, hxs⟩, hf⟩ := hrel
                  have HFY := hide hf
                  have HRY := hide hrow
                  have HXS2 := hide hxs
                  clear m0 m1 m2 m3 m4
                  obtain ⟨m0, m1, m2, m3, m4⟩ := HAT.out.fr hf (fun h => (HGL.out gl h).2 rfl)
                  dsimp only at m0 m1 m2 m3 m4
                  clear hf hrow hxs
                  rcases Nat.lt_or_ge j mkn with hlt | hge2
                  · obtain ⟨g, u, ha, hcell, hfz, hset⟩ := spoil HRY.out j (by rw [HXS2.out]; omega)
                    obtain ⟨hs1, hs2⟩ := hset (.string ⟨#[83, 80, 79, 73, 76, 84]⟩)
                    have HR2 := hide hs1
                    have HF2 := hide ((HFY.out.trans hs2).mono (Y := fun k => (Value.slice mk mkn mkc).ownBlock = some k) (fun k _ h => h.elim (fun h => h) (fun h => h)))
                    rw [ha] at m3
                    clear hset hs1 hs2
                    go_wp2
                    go_roundw
                    case rel => exact ⟨j + 1, by omega, by go_num, ⟨_, HR2.out, by rw [List.length_set, HXS2.out]⟩, HF2.out⟩
                    case measure => simp [intOf]; omega
                  · have hck4 : ¬ ((j : Int) < (mkn : Int)) := by omega
                    have hck4b : decide ((j : Int) < (mkn : Int)) = false := by simp; omega
                    have HCZ := hide (HCV.out.fr HFY.out (fun k hk h => by have := HGL.out k h; have := HX.out k hk; have := HSW.out; have := HS9.out; have := HS2.out; have := HSY.out; have := HSV.out; omega))
                    have HTZ := hide (HTV.out.fr HFY.out (fun k hk h => by have h1 : P k ∧ k < w.heap.size := hk; have := HGL.out k h; have := HSV.out; have := HSW.out; have := HS9.out; have := HS2.out; omega))
                    have HBZ := hide (HBV.out.fr HFY.out (fun h => by have := HGL.out _ h; have := HSV.out; have := HSW.out; have := HS9.out; have := HS2.out; omega))
                    have HDZ := hide (HDV.out.fr HFY.out (fun h => by have := HGL.out _ h; have := HSW.out; omega))
                    have HFZ := hide ((HFV.out.trans HFY.out).mono (Y := fun _ => False) (fun k hk h => by rcases h with h | h; exact h; (have := HGL.out k h; have := HSV.out; have := HSW.out; have := HS9.out; have := HS2.out; omega)))
                    have HFI := hide (find_any HCZ.out (by simp) tn)
                    obtain ⟨x0, x1, x2, x3, x4⟩ := HBZ.out.cells
                    dsimp only at x0 x1 x2 x3 x4
                    clear HFY HRY HXS2 m0 m1 m2 m3 m4
                    go_wp2_with fail
                    refine HFI.out.mono ?_
                    rintro e u1 ⟨f1, ⟨hno, _⟩ | ⟨i, x, hi, hx, _, a7, c7, a8, c8, rfl, ht7⟩⟩
                    · exact absurd rfl (hno _ (List.mem_singleton.2 rfl))
                    obtain ⟨rfl, rfl⟩ := one_get hi
                    dsimp only at ht7
                    unfold Tb.agg
                    dsimp only
                    obtain ⟨B4, hB4⟩ : ∃ B4, B4 = u1.heap.size := ⟨_, rfl⟩
                    obtain ⟨u2, hu2⟩ : ∃ u2, u2 = u1.alloc (.cells #[.int .i64 1, .string tn, .slice a7 tcn c7, .slice a8 tkn c8, .bool false] 30) := ⟨_, rfl⟩
                    have f2 : Fr u1 u2 (fun _ => False) := by rw [hu2]; exact Fr.alloc _ _ _
                    have b2 : BoxT u2 B4 (⟨1, tn, a7, tcn, c7, tC, a8, tkn, c8, tK, false⟩ : Tb) := by rw [hu2, hB4]; exact heap_alloc_new _ _
                    have HTY2 := hide (ht7.fr f2 (fun _ _ h => h))
                    have HTW2 := hide (HTZ.out.fr (f1.two f2) (fun _ _ h => h))
                    have HSD : Hid (SD B4 D2 (⟨1, tn, a7, tcn, c7, tC, a8, tkn, c8, tK, false⟩ : Tb) (⟨1, tn, ca, tcn, cc, tC, ka, tkn, kc, tK, false⟩ : Tb) u2) := hide ⟨b2, HDZ.out.fr (f1.two f2) (fun h => h)⟩
                    have HFU := hide (HFZ.out.two (f1.two f2))
                    have HW := hide hu2
                    have HBB4 := hide hB4
                    clear HFI hi hx f1 f2 ht7 b2 hu2 hB4 x0 x1 x2 x3 x4
                    go_wp2_with (rw [← HW.out, ← HBB4.out]; clear HW)
                    refine wp_region_K (fun _ => true) (SD B4 D2 (⟨1, tn, a7, tcn, c7, tC, a8, tkn, c8, tK, false⟩ : Tb) (⟨1, tn, ca, tcn, cc, tC, ka, tkn, kc, tK, false⟩ : Tb)) (by kernel_rfl) ?_
                    have fd := Fr.drew u2 (fun _ => False)
                    have hS := HSD.out.fr fd (fun h => h) (fun h => h)
                    refine wpAnyK_takeTo 0 (some 118) (.agg #[.int .i64 1, .string tn, .slice a7 tcn c7, .slice a8 tkn c8, .bool false]) [1, 3, 4] rfl rfl (by kernel_rfl) (by kernel_rfl) (by kernel_rfl) (by kernel_rfl) (fun _ _ _ h => h) hS (Or.inl ⟨rfl, fun w1 hw1 => by obtain ⟨⟨x0, x1, x2, x3, x4⟩, ⟨y0, y1, y2, y3, y4⟩⟩ := SD.cells hw1; dsimp only at x0 x1 x2 x3 x4 y0 y1 y2 y3 y4; go_simp⟩) ?_
                    simp only [Act.put, List.setIfInBounds_toArray, List.set_cons_zero, List.set_cons_succ]
                    refine wpAnyK_takeTo 2 (some 120) (.agg #[.int .i64 1, .string tn, .slice ca tcn cc, .slice ka tkn kc, .bool false]) [3, 4] rfl rfl (by kernel_rfl) (by kernel_rfl) (by kernel_rfl) (by kernel_rfl) (fun _ _ _ h => h) hS (Or.inl ⟨rfl, fun w1 hw1 => by obtain ⟨⟨x0, x1, x2, x3, x4⟩, ⟨y0, y1, y2, y3, y4⟩⟩ := SD.cells hw1; dsimp only at x0 x1 x2 x3 x4 y0 y1 y2 y3 y4; go_simp⟩) ?_
                    simp only [Act.put, List.setIfInBounds_toArray, List.set_cons_zero, List.set_cons_succ]
                    refine wpAnyK_one (i := 1) (by kernel_rfl) rfl rfl ?_
                    refine wp_call_to (some 119) rfl 16 #[.agg #[.int .i64 1, .string tn, .slice a7 tcn c7, .slice a8 tkn c8, .bool false]] (by go_simp) (plain_any (⟨1, tn, a7, tcn, c7, tC, a8, tkn, c8, tK, false⟩ : Tb) u2.drew) ?_
                    rintro e V5 ⟨rfl, g1⟩
                    replace hS := hS.fr g1 (fun h => h) (fun h => h)
                    refine ⟨_, rfl, fun _ => hS, ?_⟩
                    unfold Tb.agg
                    simp only [Act.put, List.setIfInBounds_toArray, List.set_cons_zero, List.set_cons_succ]
                    have g3 := fd.two g1
                    refine wpAnyK_one (i := 3) (by kernel_rfl) rfl rfl ?_
                    refine wp_call_to (some 121) rfl 15 #[.agg #[.int .i64 1, .string tn, .slice a7 tcn c7, .slice a8 tkn c8, .bool false], .agg #[.int .i64 1, .string tn, .slice ca tcn cc, .slice ka tkn kc, .bool false]] (by go_simp) (same_yes 1 tn false tC tK a7 ca a8 ka tcn c7 cc tkn c8 kc (HTY2.out.fr g3 (fun _ _ h => h)) (HTW2.out.fr g3 (fun _ _ h => h))) ?_
                    rintro e u8 ⟨rfl, g4⟩
                    replace hS := hS.fr g4 (fun h => h) (fun h => h)
                    refine ⟨_, rfl, fun _ => hS, ?_⟩
                    simp only [Act.put, List.setIfInBounds_toArray, List.set_cons_zero, List.set_cons_succ]
                    have HG9 := hide (g3.two g4)
                    refine wpAnyK_takeTo 4 (some 2) (.bool true) [] rfl rfl (by kernel_rfl) (by kernel_rfl) (by kernel_rfl) (by kernel_rfl) (fun _ _ _ h => h) hS (Or.inl ⟨rfl, fun w1 hw1 => by obtain ⟨⟨x0, x1, x2, x3, x4⟩, ⟨y0, y1, y2, y3, y4⟩⟩ := SD.cells hw1; dsimp only at x0 x1 x2 x3 x4 y0 y1 y2 y3 y4; go_simp⟩) ?_
                    simp only [Act.put, List.setIfInBounds_toArray, List.set_cons_zero, List.set_cons_succ]
                    refine wpAnyK_done (by kernel_rfl) ?_ _
                    clear hS fd g1 g3 g4 HSD
                    have HFE := hide (HFU.out.two HG9.out)
                    go_wp2
                    go_ret
                    exact ⟨rfl, HFE.out⟩
end Go.Proofs.Ytdeopneififnnaa
