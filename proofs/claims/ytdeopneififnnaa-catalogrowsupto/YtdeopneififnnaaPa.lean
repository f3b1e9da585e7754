/- New, Find, Index. -/
import Derived.Test.YtdeopneififnnaaO
namespace Go.Proofs.Ytdeopneififnnaa
open Go.RowKit
set_option maxRecDepth 100000
set_option linter.unusedVariables false
set_option linter.unusedSimpArgs false

theorem new_any (w : World) : Calls Try.prog 10 #[] w fun e w' => e = .returned (.pointer (some ⟨w.heap.size, 0, none⟩)) ∧ Fr w w' (fun _ => False) ∧ w.heap.size < w'.heap.size ∧ Cat (fun k => k = w.heap.size) w' w.heap.size (.slice none 0 0) [] := by
  go_enter Try.func10, Try.ntmps10
  go_wp2
  go_ret
  refine ⟨rfl, Fr.alloc w _ _, by simp, heap_alloc_new w _, World.ownsRow_nil _ 0 30 5, rfl, fun k hk => (by cases hk), fun t ht => (by cases ht)⟩
/-- What Find tells. -/
def FindP (s : ByteArray) (L : List Tb) (w : World) (e : Ending) (w' : World) : Prop := Fr w w' (fun _ => False) ∧
  (((∀ x ∈ L, x.name ≠ s) ∧ e = .returned (.tuple #[zeroT.agg, .int .i64 160])) ∨
   ∃ (i : Nat) (x : Tb), L[i]? = some x ∧ x.name = s ∧ (∀ (j : Nat) (y : Tb), j < i → L[j]? = some y → y.name ≠ s) ∧ ∃ a c a2 c2, e = .returned (.tuple #[({ x with ca := a, cc := c, ka := a2, kc := c2 } : Tb).agg, .int .i64 0]) ∧ TabIn (fun g => w.heap.size ≤ g) w' { x with ca := a, cc := c, ka := a2, kc := c2 })
set_option maxHeartbeats 4000000 in
theorem find_any {X : Nat → Prop} {w : World} {gc : Nat} {v : Value} {L : List Tb} (h : Cat X w gc v L) (hb : L.length ≤ 1048576) (s : ByteArray) : Calls Try.prog 27 #[.pointer (some ⟨gc, 0, none⟩), .string s] w (FindP s L w) := by
  obtain ⟨w1, hw1⟩ : ∃ w1, w1 = w.alloc (.cells #[.int .i64 0, .string ⟨#[]⟩, .slice none 0 0, .slice none 0 0, .bool false] 30) := ⟨_, rfl⟩
  have b1 : BoxT w1 w.heap.size zeroT := by rw [hw1]; exact heap_alloc_new w _
  have f1 : Fr w w1 (fun _ => False) := by rw [hw1]; exact Fr.alloc w _ _
  have h1 := h.fr f1 (fun _ _ h => h)
  have HP := hide (place_any h1 hb s)
  have HSZ : Hid (w.heap.size + 1 ≤ w1.heap.size) := hide (by rw [hw1]; simp)
  have HC := hide h1
  have HB := hide b1
  have HF := hide f1
  have HW := hide hw1
  have HBD := hide hb
  clear h h1 b1 f1 hw1 hb
  go_enter Try.func27, Try.ntmps27
  go_wp2_with (rw [← HW.out]; clear HW)
  refine HP.out.mono ?_
  rintro e w2 ⟨r, rfl, hr, fV⟩
  have HC2 := hide (HC.out.fr fV (fun _ _ h => h))
  have HB2 := hide (HB.out.fr fV (fun h => h))
  have HF2 := hide (HF.out.two fV)
  have HSZ2 := hide (Nat.le_trans HSZ.out fV.size)
  clear HP fV HC HB HF HSZ
  obtain ⟨z0, z1, z2, z3, z4⟩ := HB2.out.cells
  have q0 := HB2.out.frozen 0
  have q1 := HB2.out.frozen 1
  have q2 := HB2.out.frozen 2
  have q3 := HB2.out.frozen 3
  have q4 := HB2.out.frozen 4
  rcases hr with ⟨i, x, hi, hx, hfirst, rfl⟩ | ⟨hno, rfl⟩
  · have HI := hide hi
    have HX := hide hx
    have HFI := hide hfirst
    obtain ⟨a, c, rfl, hrow⟩ := rows_at HC2.out.row
    obtain ⟨g, rfl, e0, e1, e2, e3, e4⟩ := hrow i x hi
    have c0 := HC2.out.cell
    have hlt : i < L.length := (List.getElem?_eq_some_iff.1 hi).1
    have HT := hide (HC2.out.tabs x (List.mem_of_getElem? hi))
    obtain ⟨n, hn⟩ : ∃ n, n = L.length := ⟨_, rfl⟩
    rw [← hn] at c0 hlt
    have HN := hide hn
    have hnb : n ≤ 1048576 := by rw [hn]; exact HBD.out
    have hlb : ¬ ((i : Int) < 0) := by omega
    have hlbb : decide ((i : Int) < 0) = false := by simp
    have HO := hide (own_any x HT.out)
    unfold Tb.agg at HO
    clear hi hx hfirst hrow hn HC2
    go_wp2_with fail
    refine HO.out.mono ?_
    rintro e w3 ⟨a1, c1, a2, c2, rfl, ht, fV⟩
    have HT3 := hide ht
    have HF3 := hide (HF2.out.two fV)
    have HB3 := hide (HB2.out.fr fV (fun h => h))
    have HSZ3 := hide (Nat.le_trans HSZ2.out fV.size)
    clear HO ht fV e0 e1 e2 e3 e4 c0 HT HF2 HB2 z0 z1 z2 z3 z4 q0 q1 q2 q3 q4
    obtain ⟨z0, z1, z2, z3, z4⟩ := HB3.out.cells
    have q0 := HB3.out.frozen 0
    have q1 := HB3.out.frozen 1
    have q2 := HB3.out.frozen 2
    have q3 := HB3.out.frozen 3
    have q4 := HB3.out.frozen 4
    obtain ⟨w4, hw4⟩ : ∃ w4, w4 = ((((w3.setCell ⟨w.heap.size, 0, none⟩ (.int .i64 x.id)).setCell ⟨w.heap.size, 1, none⟩ (.string x.name)).setCell ⟨w.heap.size, 2, none⟩ (.slice a1 x.cn c1)).setCell ⟨w.heap.size, 3, none⟩ (.slice a2 x.kn c2)).setCell ⟨w.heap.size, 4, none⟩ (.bool x.ix) := ⟨_, rfl⟩
    have HB4 := hide (HB3.out.fill (t' := { x with ca := a1, cc := c1, ka := a2, kc := c2 }) w4 hw4)
    have F4 := fr_fill (t' := { x with ca := a1, cc := c1, ka := a2, kc := c2 }) w4 hw4
    have HT4 := hide ((HT3.out.fr F4 (fun k hk h => by have := HSZ2.out; omega)).mono (Q := fun g => w.heap.size ≤ g) (fun k hk => by have := HSZ2.out; omega))
    have HF4 := hide ((HF3.out.trans F4).mono (Y := fun _ => False) (fun k hk h => by rcases h with h | h; exact h; omega))
    have HU := hide hw4
    clear F4 hw4 HB3 HF3 HT3
    go_wp2_with (rw [← HU.out]; clear HU)
    refine bodyPost_ret (results_tb2 Try.results27 _ _ w.heap.size HB4.out rfl) rfl ⟨HF4.out, .inr ⟨i, x, HI.out, HX.out, HFI.out, a1, c1, a2, c2, rfl, HT4.out⟩⟩
  · have HNO := hide hno
    obtain ⟨w4, hw4⟩ : ∃ w4, w4 = ((((w2.setCell ⟨w.heap.size, 0, none⟩ (.int .i64 0)).setCell ⟨w.heap.size, 1, none⟩ (.string ⟨#[]⟩)).setCell ⟨w.heap.size, 2, none⟩ (.slice none 0 0)).setCell ⟨w.heap.size, 3, none⟩ (.slice none 0 0)).setCell ⟨w.heap.size, 4, none⟩ (.bool false) := ⟨_, rfl⟩
    have HB4 := hide (HB2.out.fill (t' := zeroT) w4 hw4)
    have F4 := fr_fill (t' := zeroT) w4 hw4
    have HF4 := hide ((HF2.out.trans F4).mono (Y := fun _ => False) (fun k hk h => by rcases h with h | h; exact h; omega))
    have HU := hide hw4
    unfold zeroT at z0 z1 z2 z3 z4
    clear hno F4 hw4 HB2 HF2 HC2
    go_wp2_with (rw [← HU.out]; clear HU)
    refine bodyPost_ret (results_tb2 Try.results27 _ _ w.heap.size HB4.out rfl) rfl ⟨HF4.out, .inl ⟨HNO.out, rfl⟩⟩
/-- A row with one cell changed. -/
theorem row_set {w : World} {e : TypeId} {size g n c : Nat} {xs : List Value} (h : w.ownsRow 0 e size (.slice (some ⟨g, 0, none⟩) n c) n xs) (j : Nat) (u : Value) (hj : j < xs.length) : (w.setCell ⟨g, j, none⟩ u).ownsRow 0 e size (.slice (some ⟨g, 0, none⟩) n c) n (xs.set j u) := by
  refine ⟨by rw [List.length_set]; exact h.1, ?_⟩
  rcases h.2 with ⟨h1, h0⟩ | ⟨g', cap, cur, h1, hb, hgg, r1, r2, r3, r4⟩
  · cases h1
  · cases h1
    refine .inr ⟨g, c, cur.setIfInBounds j u, rfl, hb, heap_setCell_here w g j u _ _ _ hgg, r1, r2, by simpa using r3, ?_⟩
    rw [Array.toList_setIfInBounds, List.take_set, r4]
theorem encT_set (L : List Tb) : ∀ (i : Nat) (x : Tb), L[i]? = some x → encT (L.set i { x with ix := true }) = (encT L).set (i * 5 + 4) (.bool true) := by
  induction L with
  | nil => intro i x h; simp at h
  | cons c C ih =>
    intro i x h
    have e : ∀ (d : Tb) (D : List Tb), encT (d :: D) = d.cells ++ encT D := fun _ _ => rfl
    cases i with
    | zero => simp at h; subst h; rfl
    | succ i =>
      rw [List.set_cons_succ, e, e, ih i x (by simpa using h), List.set_append_right _ _ (by rw [show c.cells.length = 5 from rfl]; omega), show (i + 1) * 5 + 4 - c.cells.length = i * 5 + 4 by rw [show c.cells.length = 5 from rfl]; omega]
/-- What Index does. -/
def IndexP (X : Nat → Prop) (s : ByteArray) (L : List Tb) (gc : Nat) (v : Value) (w : World) (e : Ending) (w' : World) : Prop :=
  ((∀ x ∈ L, x.name ≠ s) ∧ e = .returned (.int .i64 160) ∧ Fr w w' (fun _ => False)) ∨
   ∃ (i : Nat) (x : Tb), L[i]? = some x ∧ x.name = s ∧ (∀ (j : Nat) (y : Tb), j < i → L[j]? = some y → y.name ≠ s) ∧
    ((x.ix = true ∧ e = .returned (.int .i64 162) ∧ Fr w w' (fun _ => False)) ∨ (x.ix = false ∧ e = .returned (.int .i64 0) ∧ Fr w w' X ∧ Cat X w' gc v (L.set i { x with ix := true })))
set_option maxHeartbeats 4000000 in
theorem index_any {X : Nat → Prop} {w : World} {gc : Nat} {v : Value} {L : List Tb} (h : Cat X w gc v L) (hb : L.length ≤ 1048576) (s : ByteArray) : Calls Try.prog 28 #[.pointer (some ⟨gc, 0, none⟩), .string s] w (IndexP X s L gc v w) := by
  have HP := hide (place_any h hb s)
  have HC := hide h
  have HBD := hide hb
  clear h hb
  go_enter Try.func28, Try.ntmps28
  go_wp2_with fail
  refine HP.out.mono ?_
  rintro e w2 ⟨r, rfl, hr, fV⟩
  have HC2 := hide (HC.out.fr fV (fun _ _ h => h))
  have HF2 := hide fV
  clear HP fV HC
  rcases hr with ⟨i, x, hi, hx, hfirst, rfl⟩ | ⟨hno, rfl⟩
  · have HI := hide hi
    have HX := hide hx
    have HFI := hide hfirst
    obtain ⟨a, c, rfl, hrow⟩ := rows_at HC2.out.row
    obtain ⟨g, rfl, e0, e1, e2, e3, e4⟩ := hrow i x hi
    have c0 := HC2.out.cell
    have hlt : i < L.length := (List.getElem?_eq_some_iff.1 hi).1
    have hgne : g ≠ gc := (HC2.out.xr g rfl).2
    have hrs := row_set HC2.out.row (i * 5 + 4) (.bool true) (by rw [encT_length]; omega)
    obtain ⟨w3, hw3⟩ : ∃ w3, w3 = w2.setCell ⟨g, i * 5 + 4, none⟩ (.bool true) := ⟨_, rfl⟩
    have f3 : Fr w2 w3 (fun k => k = g) := by rw [hw3]; exact Fr.setCell _ _ _
    have HCE : Hid (Cat X w3 gc (.slice (some ⟨g, 0, none⟩) L.length c) (L.set i { x with ix := true })) := hide ⟨by rw [f3.block gc (Array.getElem?_eq_some_iff.1 HC2.out.box).1 (fun h => hgne h.symm)]; exact HC2.out.box, by
        rw [List.length_set, encT_set L i x hi, hw3]; exact hrs, HC2.out.xg, HC2.out.xr, fun t ht => by
        have hk : ∀ k, (X k ∧ k ≠ gc ∧ (Value.slice (some ⟨g, 0, none⟩) L.length c).ownBlock ≠ some k) → ¬ k = g := fun k hk hg => hk.2.2 (by rw [hg]; rfl)
        rcases List.mem_or_eq_of_mem_set ht with ht | rfl
        · exact (HC2.out.tabs t ht).fr f3 hk
        · have h0 := (HC2.out.tabs x (List.mem_of_getElem? hi)).fr f3 hk
          exact ⟨h0.cols, h0.cn, h0.cb, h0.cs, h0.keys, h0.kn, h0.kb, h0.ks, h0.id⟩⟩
    have HXG := hide (HC2.out.xr g rfl).1
    have HF3 := hide ((HF2.out.trans f3).mono (Y := X) (fun k hk h => by rcases h with h | h; exact h.elim; rw [h]; exact HXG.out))
    have z4 : w2.frozen? ⟨g, i * 5 + 4, none⟩ = false := by
      rcases HC2.out.row.2 with ⟨h1, h0⟩ | ⟨g', cap, cur, h1, hbb, hgg, _⟩
      · cases h1
      · cases h1; simp [World.frozen?, hgg]
    obtain ⟨n, hn⟩ : ∃ n, n = L.length := ⟨_, rfl⟩
    rw [← hn] at c0 hlt HCE
    have hnb : n ≤ 1048576 := by rw [hn]; exact HBD.out
    have hlb : ¬ ((i : Int) < 0) := by omega
    have hlbb : decide ((i : Int) < 0) = false := by simp
    have HU := hide hw3
    have HN := hide hn
    clear hi hx hfirst hrow hn HC2 hrs hw3 f3 hgne HXG
    cases hix : x.ix
    · have HIX := hide hix
      rw [hix] at e4
      clear hix
      go_wp2_with (rw [← HU.out]; clear HU)
      go_ret
      exact .inr ⟨i, x, HI.out, HX.out, HFI.out, .inr ⟨HIX.out, rfl, HF3.out, by rw [← HN.out]; exact HCE.out⟩⟩
    · have HIX := hide hix
      rw [hix] at e4
      clear hix
      go_wp2
      go_ret
      exact .inr ⟨i, x, HI.out, HX.out, HFI.out, .inl ⟨HIX.out, rfl, HF2.out⟩⟩
  · have HNO := hide hno
    clear hno
    go_wp2
    go_ret
    exact .inl ⟨HNO.out, rfl, HF2.out⟩
end Go.Proofs.Ytdeopneififnnaa
