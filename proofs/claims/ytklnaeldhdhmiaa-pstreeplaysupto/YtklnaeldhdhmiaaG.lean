/- slices.SortFunc at rows of points, by order. -/
import Derived.Test.YtklnaeldhdhmiaaF
import Derived.Test.YtklnaeldhdhmiaaLay
namespace Go.Proofs.Ytklnaeldhdhmiaa
open Go.RowKit Go.Sort
set_option maxRecDepth 100000
set_option linter.unusedVariables false
set_option linter.unusedSimpArgs false

instance : Inhabited Pt := ⟨⟨0, 0, 0⟩⟩
def encK (x : Pt) : List Value := [.int .i64 x.x, .int .i64 x.y, .int .i64 x.id]
theorem cmpLays22 (blk off size : Nat) (w : World) : CmpLays Try.prog 22 #[] encK 3 ordI blk off size w :=
  fun _ _ _ _ x y => order_grow x y _
theorem ltLo (x y : Pt) : ltOf ordI x y = decide (aheadP x y) := by
  unfold ltOf
  exact decide_eq_decide.2 (ordI_neg x y)
theorem swoLo : SWO (ltOf ordI) where
  irrefl x := by rw [ltLo]; simp [aheadP]
  trans x y z h1 h2 := by rw [ltLo] at *; simp at *; exact aheadP_trans h1 h2
  ntrans x y z h1 h2 := by rw [ltLo] at *; simp at *; exact aheadP_ntrans h1 h2
theorem sortFunc_any (blk off cap : Nat) (d : Array Pt) (w : World) (hH : HoldsK encK 3 w blk off d) (hblk : blk < w.heap.size) (hsz : d.size < 4611686018427387904) :
    Calls Try.prog 21 #[.slice (some ⟨blk, off, none⟩) d.size cap, .func (.func 22) #[] #[]] w fun e w' => e = .returned (.tuple #[]) ∧ ∃ d' n os, PermIn 0 d.size d d' ∧ SortedIn (ltOf ordI) 0 d.size d' ∧ w' = sortWorldK encK 3 w blk off n d' os := by
  have eg : ∀ args w, (callFunc 22 args).run Try.prog w = .ok (.enter 22 args) w := enters_of Try.func22 (by kernel_rfl) rfl
  have hcon := AnyQ.slices_SortFunc Try.sortPt 3 Try.isAgg28 Try.sizeOf28 encK (fun _ => rfl) (fun x v hv => by simp [encK] at hv; rcases hv with rfl | rfl | rfl <;> rfl) ordI swoLo 22 #[] blk off cap d w eg (cmpLays22 blk off d.size w) hH hblk hsz
  exact hcon

theorem encPs_get (L : List Pt) : ∀ i x, L[i]? = some x → ∀ j, j < 3 → (encPs L)[i * 3 + j]? = (ptc x)[j]? := by
  induction L with
  | nil => intro i x h; simp at h
  | cons y L ih =>
    intro i x h j hj
    have e : encPs (y :: L) = ptc y ++ encPs L := by simp [encPs]
    rw [e]
    cases i with
    | zero => simp at h; subst h; rw [List.getElem?_append_left (by simp [ptc]; omega)]; simp
    | succ i =>
      simp at h
      rw [List.getElem?_append_right (by simp [ptc]; omega)]
      have := ih i x h j hj
      simpa [ptc, show (i + 1) * 3 + j - 3 = i * 3 + j by omega] using this

theorem perm_lists {d d' : Array Pt} (h : PermIn 0 d.size d d') : d'.size = d.size ∧ d'.toList.Perm d.toList := by
  obtain ⟨hs, -, hp⟩ := h
  refine ⟨hs, ?_⟩
  have e : d'.extract 0 d.size = d' := by rw [← hs]; simp
  rw [e] at hp
  simpa using hp

theorem sorted_lists {d' : Array Pt} {n : Nat} (hs : d'.size = n) (h : SortedIn (ltOf ordI) 0 n d') : d'.toList.Pairwise (fun x y => ¬ aheadP y x) := by
  rw [List.pairwise_iff_getElem]
  intro i j hi hj hij
  have hi' : i < d'.size := by simpa using hi
  have hj' : j < d'.size := by simpa using hj
  have := h i j (Nat.zero_le _) hij (by omega)
  rw [ltLo, getElem!_pos d' i hi', getElem!_pos d' j hj'] at this
  simp at this
  simpa using this

/-- A list's cells, flat, are those that a row of periods holds. -/
theorem flatK_enc (L : List Pt) (t : Nat) (ht : t < L.length * 3) : (encPs L)[t]? = some (flatK encK 3 L.toArray)[t]! := by
  rw [get_flatK _ _ _ t (by simpa using ht)]
  have hq : t / 3 < L.length := by omega
  have hp : L[t / 3]? = some L[t / 3] := List.getElem?_eq_getElem hq
  have := encPs_get L (t / 3) _ hp (t % 3) (Nat.mod_lt _ (by omega))
  rw [show t / 3 * 3 + t % 3 = t by omega] at this
  rw [this, getElem!_pos L.toArray (t / 3) (by simpa using hq)]
  simp only [List.getElem_toArray]
  have h3 : t % 3 = 0 ∨ t % 3 = 1 ∨ t % 3 = 2 := by omega
  rcases h3 with h | h | h <;> rw [h] <;> rfl

theorem holds_own {w : World} {g : Nat} {cur : Array Value} {L : List Pt} (hb : w.heap[g]? = some (.cells cur 28 (0, 0))) (ht : cur.toList.take (L.length * 3) = encPs L) : HoldsK encK 3 w g 0 L.toArray := by
  intro j hj
  have hj' : j < L.length * 3 := by simpa using hj
  refine ⟨?_, by simp [World.frozen?, hb]⟩
  have h1 := flatK_enc L j hj'
  rw [← ht, List.getElem?_take_of_lt hj'] at h1
  rw [cell_of_row _ _ _ _ _ _ hb, Nat.zero_add, ← Array.getElem?_toList, h1]
  rfl

theorem heap_sortedK {w : World} {g n : Nat} {os : Array Obj} {cur : Array Value} {e : TypeId} {fr : Nat × Nat} (d : Array Pt) (hb : w.heap[g]? = some (.cells cur e fr)) :
    (sortWorldK encK 3 w g 0 n d os).heap[g]? = some (.cells (putCells id 0 (flatK encK 3 d) cur) e fr) := by
  have hg : g < w.heap.size := (Array.getElem?_eq_some_iff.1 hb).1
  unfold sortWorldK putRowK
  rw [heap_grow_old _ _ (by simpa using hg)]
  simp [putRow, mapBlock, Sort.ahead, Array.getElem?_modify, hb, onCells]

theorem fr_sortedK {w : World} {g n : Nat} {os : Array Obj} (d : Array Pt) : Fr w (sortWorldK encK 3 w g 0 n d os) (fun k => k = g) := by
  unfold sortWorldK putRowK
  refine ⟨rfl, rfl, rfl, by simp, fun k hk hne => ?_⟩
  rw [heap_grow_old _ _ (by simpa using hk)]
  have : g ≠ k := fun e => hne e.symm
  simp [putRow, mapBlock, Sort.ahead, Array.getElem?_modify, this]

theorem take_putCellsK (cur : Array Value) (T : List Pt) (h : T.length * 3 ≤ cur.size) : (putCells id 0 (flatK encK 3 T.toArray) cur).toList.take (T.length * 3) = encPs T := by
  apply List.ext_getElem?
  intro j
  by_cases hj : j < T.length * 3
  · rw [List.getElem?_take_of_lt hj, Array.getElem?_toList, flatK_enc T j hj]
    simp [putCells, hj, show j < cur.size by omega]
  · rw [List.getElem?_take_eq_none (by omega), List.getElem?_eq_none (by rw [length_encPs]; omega)]

/-- SortFunc by where they begin, at a row of one's own. -/
theorem sortOwn_any (v : Value) (L : List Pt) (w : World) (hv : OwnPt w v L) (g cap : Nat) (hs : v = .slice (some ⟨g, 0, none⟩) L.length cap) (hL : L.length ≤ 8796093022000) :
    Calls Try.prog 21 #[v, .func (.func 22) #[] #[]] w fun e w' => e = .returned (.tuple #[]) ∧ ∃ T : List Pt, T.Perm L ∧ T.Pairwise (fun x y => ¬ aheadP y x) ∧ OwnPt w' v T ∧ Fr w w' (fun k => k = g) := by
  rcases hv.2 with ⟨h1, h2⟩ | ⟨g', cap', cur, hv', hb0, hg, hle, hmx, hcs, htk⟩
  · rw [hs] at h1; simp at h1
  rw [hs] at hv'
  simp only [Value.slice.injEq, Option.some.injEq, Addr.mk.injEq, and_true, true_and] at hv'
  obtain ⟨rfl, rfl⟩ := hv'
  subst hs
  have hlt : g < w.heap.size := (Array.getElem?_eq_some_iff.1 hg).1
  have hc := sortFunc_any g 0 cap L.toArray w (holds_own hg htk) hlt (by simp; omega)
  rw [show L.toArray.size = L.length by simp] at hc
  refine hc.mono ?_
  rintro e w' ⟨rfl, d', n, os, hp, hso, rfl⟩
  have hp' := perm_lists (d := L.toArray) (by simpa using hp)
  have hl : d'.toList.length = L.length := by simpa using hp'.1
  refine ⟨rfl, d'.toList, by simpa using hp'.2, sorted_lists (by simpa using hl) hso, ?_, fr_sortedK d'⟩
  refine ⟨by rw [length_encPs], .inr ⟨g, cap, _, by rw [hl], hb0, heap_sortedK _ hg, by omega, hmx, by simp [putCells, hcs], ?_⟩⟩
  have := take_putCellsK cur d'.toList (by rw [hl]; omega)
  simpa using this

theorem sortP_any (v : Value) (L : List Pt) (w : World) (hv : OwnPt w v L) (hL : L.length ≤ 8796093022000) :
    Calls Try.prog 21 #[v, .func (.func 22) #[] #[]] w fun e w' => e = .returned (.tuple #[]) ∧ ∃ T : List Pt, T.Perm L ∧ T.Pairwise (fun x y => ¬ aheadP y x) ∧ OwnPt w' v T ∧ Fr w w' (fun k => v.ownBlock = some k) := by
  rcases hv.2 with ⟨h1, h2⟩ | ⟨g, cap, cur, hv', _⟩
  · have hn : L = [] := List.eq_nil_of_length_eq_zero h2
    subst hn h1
    have hc := AnyF.slices_SortFunc_none Try.sortPt none 0 (.func (.func 22) #[] #[]) w
    change Calls Try.prog 21 _ _ _ at hc
    refine hc.mono ?_
    rintro e w' ⟨rfl, rfl⟩
    exact ⟨rfl, [], List.Perm.refl _, List.Pairwise.nil, OwnPt.nil _, Fr.refl _ _⟩
  · refine (sortOwn_any v L w hv g cap hv' hL).mono ?_
    rintro e w' ⟨rfl, T, h1, h2, h3, h4⟩
    exact ⟨rfl, T, h1, h2, h3, h4.mono (fun k _ e => by rw [hv', e]; rfl)⟩
end Go.Proofs.Ytklnaeldhdhmiaa
