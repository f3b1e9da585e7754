/- awake. -/
import Derived.Test.YtdeopneififnnaaQe
namespace Go.Proofs.Ytdeopneififnnaa
open Go.RowKit
set_option maxRecDepth 100000
set_option linter.unusedVariables false
set_option linter.unusedSimpArgs false

theorem made_tab {w : World} (s : ByteArray) (k : Int) (id : Int) (hid : In64 id) (nm : ByteArray) (gA gK : Nat) (hA : w.heap[gA]? = some (.cells #[.string s, .int .i64 k] 37 (0, 0))) (hK : w.heap[gK]? = some (.cells #[.string s] 9 (0, 0))) :
    TabIn (fun _ => True) w ⟨id, nm, some ⟨gA, 0, none⟩, 1, 1, [⟨s, k⟩], some ⟨gK, 0, none⟩, 1, 1, [s], false⟩ := by
  refine ⟨fun i x hi => ?_, rfl, by dsimp only; omega, .inr ⟨gA, 0, rfl, trivial, (Array.getElem?_eq_some_iff.1 hA).1⟩, fun i x hi => ?_, rfl, by dsimp only; omega, .inr ⟨gK, 0, rfl, trivial, (Array.getElem?_eq_some_iff.1 hK).1⟩, hid⟩
  · match i, hi with
    | 0, hi => cases hi; exact ⟨gA, 0, rfl, trivial, (cell_of_row _ _ _ _ _ _ hA).trans rfl, (cell_of_row _ _ _ _ _ _ hA).trans rfl⟩
  · match i, hi with
    | 0, hi => cases hi; exact ⟨gK, 0, rfl, trivial, (cell_of_row _ _ _ _ _ _ hK).trans rfl⟩
theorem place_zero {k r : Int} {s : ByteArray} (h : PlaceAt s [⟨s, k⟩] r) : r = 0 := by
  rcases h with ⟨i, x, h1, _, _, rfl⟩ | ⟨h1, _⟩
  · match i, h1 with
    | 0, _ => rfl
  · exact absurd rfl (h1 _ (List.mem_singleton.2 rfl))
theorem place_none {k r : Int} {s u : ByteArray} (hne : s ≠ u) (h : PlaceAt u [⟨s, k⟩] r) : r = -1 := by
  rcases h with ⟨i, x, h1, h2, _, rfl⟩ | ⟨_, h2⟩
  · match i, h1 with
    | 0, h1 => cases h1; exact absurd h2 hne
  · exact h2
theorem chkA : chkP ⟨#[84]⟩ [⟨⟨#[65]⟩, 1⟩] [⟨#[65]⟩] = 0 := by decide
theorem createA (a b : Option Addr) : createE [] ⟨1, ⟨#[84]⟩, a, 1, 1, [⟨⟨#[65]⟩, 1⟩], b, 1, 1, [⟨#[65]⟩], false⟩ = 0 := by
  unfold createE
  rw [if_neg (fun h => h chkA)]
  rfl
set_option maxHeartbeats 16000000 in
theorem awake_any (w : World) : Calls Try.prog 9 #[] w fun e w' => e = .returned (.bool true) ∧ Fr w w' (fun _ => False) := by
  have HNew := hide (new_any w)
  obtain ⟨gc, hgc⟩ : ∃ gc, gc = w.heap.size := ⟨_, rfl⟩
  rw [← hgc] at HNew
  have HGC := hide hgc
  clear hgc
  go_enter Try.func9, Try.ntmps9
  go_wp2_with fail
  refine HNew.out.mono ?_
  rintro e w1 ⟨rfl, f1, hl1, hcat⟩
  have HF1 := hide f1
  have HC1 := hide hcat
  clear HNew f1 hcat
  obtain ⟨w2, hw2⟩ : ∃ w2, w2 = w1.alloc (.cells #[.string ⟨#[65]⟩, .int .i64 1] 37) := ⟨_, rfl⟩
  have f2 : Fr w1 w2 (fun _ => False) := by rw [hw2]; exact Fr.alloc _ _ _
  have b2 : w2.heap[w1.heap.size]? = some (.cells #[.string ⟨#[65]⟩, .int .i64 1] 37 (0, 0)) := by rw [hw2]; exact heap_alloc_new _ _
  have s2 : w2.heap.size = w1.heap.size + 1 := by rw [hw2]; simp
  obtain ⟨w3, hw3⟩ : ∃ w3, w3 = w2.alloc (.cells #[.string ⟨#[65]⟩] 9) := ⟨_, rfl⟩
  have f3 : Fr w2 w3 (fun _ => False) := by rw [hw3]; exact Fr.alloc _ _ _
  have b3 : w3.heap[w1.heap.size + 1]? = some (.cells #[.string ⟨#[65]⟩] 9 (0, 0)) := by rw [hw3, ← s2]; exact heap_alloc_new _ _
  have b2' : w3.heap[w1.heap.size]? = some (.cells #[.string ⟨#[65]⟩, .int .i64 1] 37 (0, 0)) := (f3.block _ (by omega) (fun h => h)).trans b2
  have ht := made_tab (w := w3) ⟨#[65]⟩ 1 1 (by unfold In64; omega) ⟨#[84]⟩ w1.heap.size (w1.heap.size + 1) b2' b3
  have HCR := hide (create_any (HC1.out.fr (f2.two f3) (fun _ _ h => h)) (by simp) ⟨1, ⟨#[84]⟩, some ⟨w1.heap.size, 0, none⟩, 1, 1, [⟨⟨#[65]⟩, 1⟩], some ⟨w1.heap.size + 1, 0, none⟩, 1, 1, [⟨#[65]⟩], false⟩ rfl rfl ht)
  rw [hw2] at hw3
  have HW := hide hw3
  have HF3 := hide ((HF1.out.two f2).two f3)
  have HL3 : Hid (gc < w3.heap.size) := hide (by have := f2.size; have := f3.size; have := HGC.out; omega)
  clear hw2 hw3 f2 b2 s2 f3 b3 b2' ht HF1 HC1
  go_wp2_with (rw [← HW.out]; clear HW)
  refine HCR.out.mono ?_
  rintro e w4 (⟨hne, _⟩ | ⟨_, rfl, f4, v4, a4, c4, a5, c5, hc4⟩)
  · exact absurd (createA _ _) hne
  have HF4 := hide ((HF3.out.trans f4).mono (Y := fun _ => False) (fun k hk h => by rcases h with h | h; exact h; have := HGC.out; omega))
  have HC4 := hide hc4
  have HLW : Hid (w.heap.size ≤ w3.heap.size) := hide HF3.out.size
  clear HCR f4 hc4 HF3
  have HFI := hide (find_any HC4.out (by simp) ⟨#[84]⟩)
  go_wp2_with fail
  refine HFI.out.mono ?_
  rintro e w5 ⟨f5, ⟨hno, _⟩ | ⟨i, x, hi, hx, _, a6, c6, a7, c7, rfl, ht5⟩⟩
  · exact absurd rfl (hno _ (List.mem_singleton.2 rfl))
  obtain rfl : i = 0 := by
    rcases i with _ | i
    · rfl
    · simp at hi
  obtain rfl : _ = x := Option.some.inj hi
  dsimp only at ht5 ⊢
  unfold Tb.agg
  dsimp only
  have HT5 := hide ht5
  have HC5 := hide (HC4.out.fr f5 (fun _ _ h => h))
  have HF5 := hide (HF4.out.two f5)
  have HL5 : Hid (gc < w5.heap.size) := hide ((Array.getElem?_eq_some_iff.1 HC5.out.box).1)
  clear HFI ht5 f5 hi hx HC4 HF4 HL3
  obtain ⟨w6, hw6⟩ : ∃ w6, w6 = w5.alloc (.cells #[.int .i64 1, .string ⟨#[84]⟩, .slice a6 1 c6, .slice a7 1 c7, .bool false] 30) := ⟨_, rfl⟩
  have f6 : Fr w5 w6 (fun _ => False) := by rw [hw6]; exact Fr.alloc _ _ _
  have b6 : BoxT w6 w5.heap.size ⟨1, ⟨#[84]⟩, a6, 1, c6, [⟨⟨#[65]⟩, 1⟩], a7, 1, c7, [⟨#[65]⟩], false⟩ := by rw [hw6]; exact heap_alloc_new _ _
  obtain ⟨x0, x1, x2, x3, x4⟩ := b6.cells
  dsimp only at x0 x1 x2 x3 x4
  have HRO := hide (row_any _ (HT5.out.fr f6 (fun _ _ h => h)))
  unfold Tb.agg at HRO
  dsimp only at HRO
  have HC6 := hide (HC5.out.fr f6 (fun _ _ h => h))
  have HF6 := hide (HF5.out.two f6)
  have HW := hide hw6
  clear hw6 f6 b6 HT5 HC5 HF5
  go_wp2_with (rw [← HW.out]; clear HW)
  refine HRO.out.mono ?_
  rintro e w7 ⟨v7, rfl, hg⟩
  obtain ⟨av, cv, rfl, hvv, _, hcc⟩ := hg.vals
  have f7 := hg.2.1
  have hlen : (rowP ⟨1, ⟨#[84]⟩, a6, 1, c6, [⟨⟨#[65]⟩, 1⟩], a7, 1, c7, [⟨#[65]⟩], false⟩).length = 7 := by rw [rowP_length]; rfl
  rw [hlen] at hcc ⊢
  have HRE := hide (read_row _ av 7 cv hvv hlen hcc (by omega) (by simp) (by simp) (by unfold In64; dsimp only; omega))
  have HC7 := hide (HC6.out.fr f7 (fun _ _ h => h))
  have HF7 := hide (HF6.out.two f7)
  clear HRO hg hvv hcc hlen f7 HC6 HF6 x0 x1 x2 x3 x4
  go_wp2_with fail
  refine HRE.out.mono ?_
  rintro e w8 ⟨f8, ⟨hno, _⟩ | ⟨_, s, hk, rfl, ht8⟩⟩
  · exact absurd ⟨by dsimp only; omega, by dsimp only; omega, chkA⟩ hno
  obtain ⟨i8, n8, a8, m8, c8, C8, b8, k8, d8, K8, x8⟩ := s
  simp only [Tb.key, Prod.mk.injEq] at hk
  obtain ⟨rfl, rfl, rfl, rfl, rfl⟩ := hk
  obtain rfl : 1 = m8 := ht8.cn
  obtain rfl : 1 = k8 := ht8.kn
  unfold Tb.agg
  dsimp only
  have HT8 := hide ht8
  have HC8 := hide (HC7.out.fr f8 (fun _ _ h => h))
  have HF8 := hide (HF7.out.two f8)
  clear HRE ht8 f8 HC7 HF7
  obtain ⟨w9, hw9⟩ : ∃ w9, w9 = w8.alloc (.cells #[.int .i64 1, .string ⟨#[84]⟩, .slice a8 1 c8, .slice b8 1 d8, .bool false] 30) := ⟨_, rfl⟩
  have f9 : Fr w8 w9 (fun _ => False) := by rw [hw9]; exact Fr.alloc _ _ _
  have b9 : BoxT w9 w8.heap.size ⟨1, ⟨#[84]⟩, a8, 1, c8, [⟨⟨#[65]⟩, 1⟩], b8, 1, d8, [⟨#[65]⟩], false⟩ := by rw [hw9]; exact heap_alloc_new _ _
  obtain ⟨x0, x1, x2, x3, x4⟩ := b9.cells
  dsimp only at x0 x1 x2 x3 x4
  have HT9 := hide (HT8.out.fr f9 (fun _ _ h => h))
  have HB9 := hide b9
  have HC9 := hide (HC8.out.fr f9 (fun _ _ h => h))
  have HF9 := hide (HF8.out.two f9)
  have HCO := hide (column_any _ HT9.out.cols HT9.out.cn HT9.out.cb ⟨#[65]⟩)
  unfold Tb.agg at HCO
  dsimp only at HCO
  have HW := hide hw9
  clear hw9 f9 b9 HT8 HC8 HF8
  go_wp2_with (rw [← HW.out]; clear HW)
  refine HCO.out.mono ?_
  rintro e w10 ⟨r, rfl, hr, f10⟩
  obtain rfl := place_zero hr
  have HT10 := hide (HT9.out.fr f10 (fun _ _ h => h))
  have HC10 := hide (HC9.out.fr f10 (fun _ _ h => h))
  have HF10 := hide (HF9.out.two f10)
  have HB10 := hide (HB9.out.fr f10 (fun h => h))
  clear HCO hr f10 HT9 HC9 HF9 HB9 x0 x1 x2 x3 x4
  obtain ⟨x0, x1, x2, x3, x4⟩ := HB10.out.cells
  dsimp only at x0 x1 x2 x3 x4
  have HCO := hide (column_any _ HT10.out.cols HT10.out.cn HT10.out.cb ⟨#[66]⟩)
  unfold Tb.agg at HCO
  dsimp only at HCO
  go_wp2_with fail
  refine HCO.out.mono ?_
  rintro e w11 ⟨r, rfl, hr, f11⟩
  obtain rfl := place_none (by decide) hr
  have HC11 := hide (HC10.out.fr f11 (fun _ _ h => h))
  have HF11 := hide (HF10.out.two f11)
  clear HCO hr f11 HT10 HC10 HF10 HB10 x0 x1 x2 x3 x4
  have HIN := hide (index_any HC11.out (by simp) ⟨#[84]⟩)
  go_wp2_with fail
  refine HIN.out.mono ?_
  rintro e w12 (⟨hno, _⟩ | ⟨i, x, hi, hx, _, ⟨hix, _⟩ | ⟨hix, rfl, f12, hc12⟩⟩)
  · exact absurd rfl (hno _ (List.mem_singleton.2 rfl))
  · exfalso
    have hm := List.mem_of_getElem? hi
    obtain rfl := List.mem_singleton.1 hm
    cases hix
  obtain rfl : i = 0 := by
    rcases i with _ | i
    · rfl
    · simp at hi
  obtain rfl : _ = x := Option.some.inj hi
  have HC12 := hide hc12
  have HF12 := hide ((HF11.out.trans f12).mono (Y := fun _ => False) (fun k hk h => by rcases h with h | h | h; exact h; (have := HGC.out; omega); (have := HLW.out; omega)))
  clear HIN hi hx hix f12 hc12 HC11 HF11
  have HIN := hide (index_any HC12.out (by simp) ⟨#[84]⟩)
  go_wp2_with fail
  refine HIN.out.mono ?_
  rintro e w13 (⟨hno, _⟩ | ⟨i, x, hi, hx, _, ⟨hix, rfl, f13⟩ | ⟨hix, _⟩⟩)
  · exact absurd rfl (hno _ (List.mem_singleton.2 rfl))
  · have HF13 := hide (HF12.out.two f13)
    clear HIN hi hx hix f13
    go_wp2
    go_ret
    exact ⟨rfl, HF13.out⟩
  · exfalso
    have hm := List.mem_of_getElem? hi
    obtain rfl := List.mem_singleton.1 hm
    cases hix
end Go.Proofs.Ytdeopneififnnaa
