/- The library's sorts at this program: how its functions and types are numbered. -/
import Derived.Shelf.SlSortCmp.WholeK
import Derived.Shelf.SlSortCmp.NoneTotal
import Derived.Shelf.SlicesG.Cmp
import Derived.Shelf.SlLaysNS
import Derived.Ground.SlsfProg
import Derived.Test.YtigkinakhijfoaaGreatProg
import Derived.Test.YtigkinakhijfoaaGreatJPa
import Derived.Lib.SliceRun
namespace Go.Proofs
open Go.Shelf
def Tryz.sortPt_ren : Go.Shelf.Ren := ⟨fun | 6 => 26 | 15 => 44 | 14 => 45 | 28 => 73 | 29 => 28 | 20 => 74 | 21 => 75 | 22 => 76 | 23 => 77 | 24 => 78 | 25 => 79 | 26 => 80 | 27 => 81 | 46 => 102 | 47 => 98 | 48 => 99 | 49 => 103 | 50 => 104 | 57 => 110 | n => n, fun | 22 => 40 | 24 => 35 | 25 => 71 | 3 => 3 | 39 => 99 | 0 => 0 | 53 => 128 | 55 => 82 | 4 => 4 | 46 => 121 | 45 => 120 | 50 => 103 | 5 => 5 | 9 => 9 | 66 => 146 | 70 => 150 | 76 => 156 | 77 => 157 | n => n, fun | n => n⟩
theorem Tryz.sortPt : Go.Proofs.SlLaysF0.n6 Tryz.prog Tryz.sortPt_ren := {
  mixed := by kernel_rfl
  f6 := ⟨Tryz.f26.name, by decide, Tryz.func26.trans (congrArg some (by kernel_rfl))⟩
  f14 := ⟨Tryz.f45.name, by decide, Tryz.func45.trans (congrArg some (by kernel_rfl))⟩
  f15 := Tryz.func44.trans (congrArg some (by kernel_rfl))
  f20 := ⟨Tryz.f74.name, by decide, Tryz.func74.trans (congrArg some (by kernel_rfl))⟩
  f21 := ⟨Tryz.f75.name, by decide, Tryz.func75.trans (congrArg some (by kernel_rfl))⟩
  f22 := ⟨Tryz.f76.name, by decide, Tryz.func76.trans (congrArg some (by kernel_rfl))⟩
  f23 := ⟨Tryz.f77.name, by decide, Tryz.func77.trans (congrArg some (by kernel_rfl))⟩
  f24 := ⟨Tryz.f78.name, by decide, Tryz.func78.trans (congrArg some (by kernel_rfl))⟩
  f25 := ⟨Tryz.f79.name, by decide, Tryz.func79.trans (congrArg some (by kernel_rfl))⟩
  f26 := ⟨Tryz.f80.name, by decide, Tryz.func80.trans (congrArg some (by kernel_rfl))⟩
  f27 := ⟨Tryz.f81.name, by decide, Tryz.func81.trans (congrArg some (by kernel_rfl))⟩
  f28 := Tryz.func73.trans (congrArg some (by kernel_rfl))
  f29 := Tryz.func28.trans (congrArg some (by kernel_rfl))
  f46 := ⟨Tryz.f102.name, by decide, Tryz.func102.trans (congrArg some (by kernel_rfl))⟩
  f47 := Tryz.func98.trans (congrArg some (by kernel_rfl))
  f48 := Tryz.func99.trans (congrArg some (by kernel_rfl))
  f49 := ⟨Tryz.f103.name, by decide, Tryz.func103.trans (congrArg some (by kernel_rfl))⟩
  f50 := ⟨Tryz.f104.name, by decide, Tryz.func104.trans (congrArg some (by kernel_rfl))⟩
  f57 := ⟨Tryz.f110.name, by decide, Tryz.func110.trans (congrArg some (by kernel_rfl))⟩
  t0 := Tryz.underlying0
  a0 := Tryz.isAgg0
  z0 := Tryz.sizeOf0
  v0 := Tryz.zeroValue0
  t3 := Tryz.underlying3
  a3 := Tryz.isAgg3
  z3 := Tryz.sizeOf3
  v3 := Tryz.zeroValue3
  t4 := Tryz.underlying4
  a4 := Tryz.isAgg4
  z4 := Tryz.sizeOf4
  v4 := Tryz.zeroValue4
  t5 := Tryz.underlying5
  a5 := Tryz.isAgg5
  z5 := Tryz.sizeOf5
  v5 := Tryz.zeroValue5
  t9 := Tryz.underlying9
  a9 := Tryz.isAgg9
  z9 := Tryz.sizeOf9
  v9 := Tryz.zeroValue9
  t22 := Tryz.underlying40
  a22 := Tryz.isAgg40
  z22 := Tryz.sizeOf40
  v22 := Tryz.zeroValue40
  t25 := Tryz.underlying71
  a25 := Tryz.isAgg71
  z25 := Tryz.sizeOf71
  v25 := Tryz.zeroValue71
  t39 := Tryz.underlying99
  a39 := Tryz.isAgg99
  z39 := Tryz.sizeOf99
  v39 := Tryz.zeroValue99
  t45 := Tryz.underlying120
  a45 := Tryz.isAgg120
  z45 := Tryz.sizeOf120
  v45 := Tryz.zeroValue120
  t46 := Tryz.underlying121
  a46 := Tryz.isAgg121
  z46 := Tryz.sizeOf121
  v46 := Tryz.zeroValue121
  t50 := Tryz.underlying103
  a50 := Tryz.isAgg103
  z50 := Tryz.sizeOf103
  v50 := Tryz.zeroValue103
  t53 := Tryz.underlying128
  a53 := Tryz.isAgg128
  z53 := Tryz.sizeOf128
  v53 := Tryz.zeroValue128
  t55 := Tryz.underlying82
  a55 := Tryz.isAgg82
  z55 := Tryz.sizeOf82
  v55 := Tryz.zeroValue82
  t66 := Tryz.underlying146
  a66 := Tryz.isAgg146
  z66 := Tryz.sizeOf146
  v66 := Tryz.zeroValue146
  t70 := Tryz.underlying150
  a70 := Tryz.isAgg150
  z70 := Tryz.sizeOf150
  v70 := Tryz.zeroValue150
  t76 := Tryz.underlying156
  a76 := Tryz.isAgg156
  z76 := Tryz.sizeOf156
  v76 := Tryz.zeroValue156
  t77 := Tryz.underlying157
  a77 := Tryz.isAgg157
  z77 := Tryz.sizeOf157
  v77 := Tryz.zeroValue157 }


end Go.Proofs

/- slices.SortFunc at rows of points, by order. -/
namespace Go.Proofs.YtigkinakhijfoaaGreat.Ps
open Go.RowKit Go.Sort
set_option maxRecDepth 100000
set_option linter.unusedVariables false
set_option linter.unusedSimpArgs false

instance : Inhabited Pt := ⟨⟨0, 0, 0⟩⟩
def encK (x : Pt) : List Value := [.int .i64 x.x, .int .i64 x.y, .int .i64 x.id]
theorem cmpLays22 (blk off size : Nat) (w : World) : CmpLays Tryz.prog 27 #[] encK 3 ordI blk off size w :=
  fun _ _ _ _ x y => order_grow x y _
theorem ltLo (x y : Pt) : ltOf ordI x y = decide (aheadP x y) := by
  unfold ltOf
  exact decide_eq_decide.2 (ordI_neg x y)
theorem swoLo : SWO (ltOf ordI) where
  irrefl x := by rw [ltLo]; simp [aheadP]
  trans x y z h1 h2 := by rw [ltLo] at *; simp at *; exact aheadP_trans h1 h2
  ntrans x y z h1 h2 := by rw [ltLo] at *; simp at *; exact aheadP_ntrans h1 h2
theorem sortFunc_any (blk off cap : Nat) (d : Array Pt) (w : World) (hH : HoldsK encK 3 w blk off d) (hblk : blk < w.heap.size) (hsz : d.size < 4611686018427387904) :
    Calls Tryz.prog 26 #[.slice (some ⟨blk, off, none⟩) d.size cap, .func (.func 27) #[] #[]] w fun e w' => e = .returned (.tuple #[]) ∧ ∃ d' n os, PermIn 0 d.size d d' ∧ SortedIn (ltOf ordI) 0 d.size d' ∧ w' = sortWorldK encK 3 w blk off n d' os := by
  have eg : ∀ args w, (callFunc 27 args).run Tryz.prog w = .ok (.enter 27 args) w := enters_of Tryz.func27 (by kernel_rfl) rfl
  have hcon := AnyQ.slices_SortFunc Tryz.sortPt 3 Tryz.isAgg35 Tryz.sizeOf35 encK (fun _ => rfl) (fun x v hv => by simp [encK] at hv; rcases hv with rfl | rfl | rfl <;> rfl) ordI swoLo 27 #[] blk off cap d w eg (cmpLays22 blk off d.size w) hH hblk hsz
  exact hcon

theorem encPs_get (L : List Pt) : ∀ i x, L[i]? = some x → ∀ j, j < 3 → (encPs L)[i * 3 + j]? = (ptc x)[j]? := by
  induction L with
  | nil => intro i x h; simp at h
  | cons y L ih =>
    intro i x h j hj
    have e : encPs (y :: L) = ptc y ++ encPs L := by simp [encPs]
    rw [e]
    cases i with
    | zero => simp at h; subst h; rw [List.getElem?_append_left (by simp [ptc]; omega)]; simp
    | succ i =>
      simp at h
      rw [List.getElem?_append_right (by simp [ptc]; omega)]
      have := ih i x h j hj
      simpa [ptc, show (i + 1) * 3 + j - 3 = i * 3 + j by omega] using this

theorem perm_lists {d d' : Array Pt} (h : PermIn 0 d.size d d') : d'.size = d.size ∧ d'.toList.Perm d.toList := by
  obtain ⟨hs, -, hp⟩ := h
  refine ⟨hs, ?_⟩
  have e : d'.extract 0 d.size = d' := by rw [← hs]; simp
  rw [e] at hp
  simpa using hp

theorem sorted_lists {d' : Array Pt} {n : Nat} (hs : d'.size = n) (h : SortedIn (ltOf ordI) 0 n d') : d'.toList.Pairwise (fun x y => ¬ aheadP y x) := by
  rw [List.pairwise_iff_getElem]
  intro i j hi hj hij
  have hi' : i < d'.size := by simpa using hi
  have hj' : j < d'.size := by simpa using hj
  have := h i j (Nat.zero_le _) hij (by omega)
  rw [ltLo, getElem!_pos d' i hi', getElem!_pos d' j hj'] at this
  simp at this
  simpa using this

/-- A list's cells, flat, are those that a row of periods holds. -/
theorem flatK_enc (L : List Pt) (t : Nat) (ht : t < L.length * 3) : (encPs L)[t]? = some (flatK encK 3 L.toArray)[t]! := by
  rw [get_flatK _ _ _ t (by simpa using ht)]
  have hq : t / 3 < L.length := by omega
  have hp : L[t / 3]? = some L[t / 3] := List.getElem?_eq_getElem hq
  have := encPs_get L (t / 3) _ hp (t % 3) (Nat.mod_lt _ (by omega))
  rw [show t / 3 * 3 + t % 3 = t by omega] at this
  rw [this, getElem!_pos L.toArray (t / 3) (by simpa using hq)]
  simp only [List.getElem_toArray]
  have h3 : t % 3 = 0 ∨ t % 3 = 1 ∨ t % 3 = 2 := by omega
  rcases h3 with h | h | h <;> rw [h] <;> rfl

theorem holds_own {w : World} {g : Nat} {cur : Array Value} {L : List Pt} (hb : w.heap[g]? = some (.cells cur 35 (0, 0))) (ht : cur.toList.take (L.length * 3) = encPs L) : HoldsK encK 3 w g 0 L.toArray := by
  intro j hj
  have hj' : j < L.length * 3 := by simpa using hj
  refine ⟨?_, by simp [World.frozen?, hb]⟩
  have h1 := flatK_enc L j hj'
  rw [← ht, List.getElem?_take_of_lt hj'] at h1
  rw [cell_of_row _ _ _ _ _ _ hb, Nat.zero_add, ← Array.getElem?_toList, h1]
  rfl

theorem heap_sortedK {w : World} {g n : Nat} {os : Array Obj} {cur : Array Value} {e : TypeId} {fr : Nat × Nat} (d : Array Pt) (hb : w.heap[g]? = some (.cells cur e fr)) :
    (sortWorldK encK 3 w g 0 n d os).heap[g]? = some (.cells (putCells id 0 (flatK encK 3 d) cur) e fr) := by
  have hg : g < w.heap.size := (Array.getElem?_eq_some_iff.1 hb).1
  unfold sortWorldK putRowK
  rw [heap_grow_old _ _ (by simpa using hg)]
  simp [putRow, mapBlock, Sort.ahead, Array.getElem?_modify, hb, onCells]

theorem fr_sortedK {w : World} {g n : Nat} {os : Array Obj} (d : Array Pt) : Fr w (sortWorldK encK 3 w g 0 n d os) (fun k => k = g) := by
  unfold sortWorldK putRowK
  refine ⟨rfl, rfl, rfl, by simp, fun k hk hne => ?_⟩
  rw [heap_grow_old _ _ (by simpa using hk)]
  have : g ≠ k := fun e => hne e.symm
  simp [putRow, mapBlock, Sort.ahead, Array.getElem?_modify, this]

theorem take_putCellsK (cur : Array Value) (T : List Pt) (h : T.length * 3 ≤ cur.size) : (putCells id 0 (flatK encK 3 T.toArray) cur).toList.take (T.length * 3) = encPs T := by
  apply List.ext_getElem?
  intro j
  by_cases hj : j < T.length * 3
  · rw [List.getElem?_take_of_lt hj, Array.getElem?_toList, flatK_enc T j hj]
    simp [putCells, hj, show j < cur.size by omega]
  · rw [List.getElem?_take_eq_none (by omega), List.getElem?_eq_none (by rw [length_encPs]; omega)]

/-- SortFunc by where they begin, at a row of one's own. -/
theorem sortOwn_any (v : Value) (L : List Pt) (w : World) (hv : OwnPt w v L) (g cap : Nat) (hs : v = .slice (some ⟨g, 0, none⟩) L.length cap) (hL : L.length ≤ 8796093022000) :
    Calls Tryz.prog 26 #[v, .func (.func 27) #[] #[]] w fun e w' => e = .returned (.tuple #[]) ∧ ∃ T : List Pt, T.Perm L ∧ T.Pairwise (fun x y => ¬ aheadP y x) ∧ OwnPt w' v T ∧ Fr w w' (fun k => k = g) := by
  rcases hv.2 with ⟨h1, h2⟩ | ⟨g', cap', cur, hv', hb0, hg, hle, hmx, hcs, htk⟩
  · rw [hs] at h1; simp at h1
  rw [hs] at hv'
  simp only [Value.slice.injEq, Option.some.injEq, Addr.mk.injEq, and_true, true_and] at hv'
  obtain ⟨rfl, rfl⟩ := hv'
  subst hs
  have hlt : g < w.heap.size := (Array.getElem?_eq_some_iff.1 hg).1
  have hc := sortFunc_any g 0 cap L.toArray w (holds_own hg htk) hlt (by simp; omega)
  rw [show L.toArray.size = L.length by simp] at hc
  refine hc.mono ?_
  rintro e w' ⟨rfl, d', n, os, hp, hso, rfl⟩
  have hp' := perm_lists (d := L.toArray) (by simpa using hp)
  have hl : d'.toList.length = L.length := by simpa using hp'.1
  refine ⟨rfl, d'.toList, by simpa using hp'.2, sorted_lists (by simpa using hl) hso, ?_, fr_sortedK d'⟩
  refine ⟨by rw [length_encPs], .inr ⟨g, cap, _, by rw [hl], hb0, heap_sortedK _ hg, by omega, hmx, by simp [putCells, hcs], ?_⟩⟩
  have := take_putCellsK cur d'.toList (by rw [hl]; omega)
  simpa using this

theorem sortP_any (v : Value) (L : List Pt) (w : World) (hv : OwnPt w v L) (hL : L.length ≤ 8796093022000) :
    Calls Tryz.prog 26 #[v, .func (.func 27) #[] #[]] w fun e w' => e = .returned (.tuple #[]) ∧ ∃ T : List Pt, T.Perm L ∧ T.Pairwise (fun x y => ¬ aheadP y x) ∧ OwnPt w' v T ∧ Fr w w' (fun k => v.ownBlock = some k) := by
  rcases hv.2 with ⟨h1, h2⟩ | ⟨g, cap, cur, hv', _⟩
  · have hn : L = [] := List.eq_nil_of_length_eq_zero h2
    subst hn h1
    have hc := AnyF.slices_SortFunc_none Tryz.sortPt none 0 (.func (.func 27) #[] #[]) w
    change Calls Tryz.prog 26 _ _ _ at hc
    refine hc.mono ?_
    rintro e w' ⟨rfl, rfl⟩
    exact ⟨rfl, [], List.Perm.refl _, List.Pairwise.nil, OwnPt.nil _, Fr.refl _ _⟩
  · refine (sortOwn_any v L w hv g cap hv' hL).mono ?_
    rintro e w' ⟨rfl, T, h1, h2, h3, h4⟩
    exact ⟨rfl, T, h1, h2, h3, h4.mono (fun k _ e => by rw [hv', e]; rfl)⟩
end Go.Proofs.YtigkinakhijfoaaGreat.Ps

/- slices.Delete at a part of a row of points. -/
namespace Go.Proofs.YtigkinakhijfoaaGreat.Ps
open Go.RowKit Go.Sort
set_option maxRecDepth 100000
set_option linter.unusedVariables false
set_option linter.unusedSimpArgs false

/-- Points in a part of a block. -/
structure SegAt (w : World) (g off : Nat) (L : List Pt) : Prop where
  p : ∀ (i : Nat) (p : Pt), L[i]? = some p → PtAt w g (off + i * 3) p
  z : ∀ k, w.frozen? ⟨g, k, none⟩ = false
  lt : g < w.heap.size
structure SegFr (w w' : World) (g lo hi : Nat) : Prop where
  f : Fr w w' (fun k => k = g)
  c : ∀ k, (k < lo ∨ hi ≤ k) → w'.cell? ⟨g, k, none⟩ = w.cell? ⟨g, k, none⟩
  z : ∀ k, w'.frozen? ⟨g, k, none⟩ = w.frozen? ⟨g, k, none⟩
theorem SegFr.refl (w : World) (g lo hi : Nat) : SegFr w w g lo hi := ⟨Fr.refl _ _, fun _ _ => rfl, fun _ => rfl⟩
theorem SegFr.trans {a b c : World} {g lo hi : Nat} (h : SegFr a b g lo hi) (k : SegFr b c g lo hi) : SegFr a c g lo hi :=
  ⟨(h.f.trans k.f).mono (fun _ _ h => h.elim (fun h => h) (fun h => h)), fun q hq => (k.c q hq).trans (h.c q hq), fun q => (k.z q).trans (h.z q)⟩
theorem SegFr.wide {a b : World} {g lo hi lo' hi' : Nat} (h : SegFr a b g lo hi) (h1 : lo' ≤ lo) (h2 : hi ≤ hi') : SegFr a b g lo' hi' :=
  ⟨h.f, fun k hk => h.c k (by omega), h.z⟩
theorem cell_eq_fr {w w' : World} {X : Nat → Prop} (hf : Fr w w' X) {g k : Nat} (hg : g < w.heap.size) (hx : ¬ X g) : w'.cell? ⟨g, k, none⟩ = w.cell? ⟨g, k, none⟩ := by
  unfold World.cell?
  rw [hf.block g hg hx]
theorem frozen_eq_fr {w w' : World} {X : Nat → Prop} (hf : Fr w w' X) {g k : Nat} (hg : g < w.heap.size) (hx : ¬ X g) : w'.frozen? ⟨g, k, none⟩ = w.frozen? ⟨g, k, none⟩ := by
  unfold World.frozen?
  rw [hf.block g hg hx]
/-- What leaves the block leaves the part. -/
theorem SegFr.ofFr {w w' : World} {X : Nat → Prop} (hf : Fr w w' X) {g lo hi : Nat} (hg : g < w.heap.size) (hx : ∀ k, k < w.heap.size → X k → False) : SegFr w w' g lo hi :=
  ⟨hf.mono (fun k hk h => (hx k hk h).elim), fun k _ => cell_eq_fr hf hg (fun h => hx g hg h), fun k => frozen_eq_fr hf hg (fun h => hx g hg h)⟩
theorem SegAt.fr {w w' : World} {X : Nat → Prop} {g off : Nat} {L : List Pt} (h : SegAt w g off L) (hf : Fr w w' X) (hx : ¬ X g) : SegAt w' g off L :=
  ⟨fun i p hp => (h.p i p hp).fr hf hx, fun k => by rw [frozen_eq_fr hf h.lt hx]; exact h.z k, Nat.lt_of_lt_of_le h.lt hf.size⟩
/-- A part beside the one that is changed. -/
theorem SegAt.apart {w w' : World} {g off lo hi : Nat} {L : List Pt} (h : SegAt w g off L) (hf : SegFr w w' g lo hi) (ha : off + L.length * 3 ≤ lo ∨ hi ≤ off) : SegAt w' g off L := by
  refine ⟨fun i p hp => ?_, fun k => by rw [hf.z]; exact h.z k, Nat.lt_of_lt_of_le h.lt hf.f.size⟩
  have hi := (List.getElem?_eq_some_iff.1 hp).1
  obtain ⟨q1, q2, q3⟩ := h.p i p hp
  exact ⟨by rw [hf.c _ (by omega)]; exact q1, by rw [hf.c _ (by omega)]; exact q2, by rw [hf.c _ (by omega)]; exact q3⟩
theorem SegAt.cell {w : World} {g off : Nat} {L : List Pt} (h : SegAt w g off L) {j : Nat} {u : Value} (hu : (encPs L)[j]? = some u) : w.cell? ⟨g, off + j, none⟩ = some u := by
  have hj : j < L.length * 3 := by have := (List.getElem?_eq_some_iff.1 hu).1; rw [length_encPs] at this; exact this
  obtain ⟨p, hp⟩ : ∃ p, L[j / 3]? = some p := ⟨_, List.getElem?_eq_getElem (by omega)⟩
  have e := encPs_get L (j / 3) p hp (j % 3) (Nat.mod_lt _ (by omega))
  rw [show j / 3 * 3 + j % 3 = j by omega] at e
  rw [e] at hu
  obtain ⟨q1, q2, q3⟩ := h.p (j / 3) p hp
  have h3 : j % 3 = 0 ∨ j % 3 = 1 ∨ j % 3 = 2 := by omega
  rcases h3 with h | h | h
  · rw [h] at hu; cases hu; rw [show off + j = off + j / 3 * 3 by omega]; exact q1
  · rw [h] at hu; cases hu; rw [show off + j = off + j / 3 * 3 + 1 by omega]; exact q2
  · rw [h] at hu; cases hu; rw [show off + j = off + j / 3 * 3 + 2 by omega]; exact q3
theorem seg_of_cells {w : World} {g off : Nat} {L : List Pt} (h : ∀ j u, (encPs L)[j]? = some u → w.cell? ⟨g, off + j, none⟩ = some u) (hz : ∀ k, w.frozen? ⟨g, k, none⟩ = false) (hlt : g < w.heap.size) : SegAt w g off L := by
  refine ⟨fun i p hp => ?_, hz, hlt⟩
  have e := encPs_get L i p hp
  exact ⟨h (i * 3) _ (by have h0 := e 0 (by omega); rw [Nat.add_zero] at h0; rw [h0]; rfl), by simpa [Nat.add_assoc] using h (i * 3 + 1) _ (e 1 (by omega)), by simpa [Nat.add_assoc] using h (i * 3 + 2) _ (e 2 (by omega))⟩
theorem encPs_some {L : List Pt} {u : Value} (hu : u ∈ encPs L) : u.oneCell' = true := by
  unfold encPs at hu
  obtain ⟨p, _, hp⟩ := List.mem_flatMap.1 hu
  simp [ptc] at hp
  rcases hp with rfl | rfl | rfl <;> rfl
def zero3 : List Value := [.int .i64 0, .int .i64 0, .int .i64 0]
theorem run_clear1 (w : World) (ty : TypeId) (b o c : Nat) (hc : ∀ j, j < 3 → (w.cell? ⟨b, o + j, none⟩).isSome = true) (hf : ∀ j, j < 3 → w.frozen? ⟨b, o + j, none⟩ = false) :
    (Builtin.clear_ #[40] ty #[.slice (some ⟨b, o, none⟩) 1 c]).run Tryz.prog w = .ok (.tuple #[]) (w.setCells b o zero3) := by
  have hv : ∀ w, (zeroValue 35).run Tryz.prog w = .ok (.agg #[.int .i64 0, .int .i64 0, .int .i64 0]) w := Tryz.zeroValue35
  have hzc : (Builtin.zeroCells (Value.agg #[.int .i64 0, .int .i64 0, .int .i64 0]).cells 1).toList = zero3 := by kernel_rfl
  have hst := run_storeCells_cells (P := Tryz.prog) b o zero3 0 w (by simpa [zero3] using hc) (by simpa [zero3] using hf) (by intro v hv'; simp [zero3] at hv'; subst hv'; rfl)
  simp only [Nat.add_zero] at hst
  simp [Builtin.clear_, run_underlying Tryz.underlying40, hv, hzc, hst]
/-- Cells written within a part. -/
theorem segFr_set {w : World} {g o lo hi : Nat} (vs : List Value) (h1 : lo ≤ o) (h2 : o + vs.length ≤ hi) : SegFr w (w.setCells g o vs) g lo hi := by
  refine ⟨?_, fun k hk => World.cell?_setCells_out g vs o w ⟨g, k, none⟩ (fun _ _ => by show k < o ∨ o + vs.length ≤ k; omega), fun k => World.frozen?_setCells g vs o w _⟩
  induction vs generalizing o w with
  | nil => exact Fr.refl _ _
  | cons v vs ih =>
    simp only [List.length_cons] at h2
    exact ((Fr.setCell w ⟨g, o, none⟩ v).trans (ih (w := w.setCell ⟨g, o, none⟩ v) (o := o + 1) (by omega) (by omega))).mono (fun _ _ h => h.elim (fun h => h) (fun h => h))
set_option maxHeartbeats 4000000 in
theorem delete_any {w : World} {g off n cap : Nat} {L : List Pt} (hs : SegAt w g off L) (hn : L.length = n) (hc : n ≤ cap) (hcap : cap ≤ 9223372036854775807) (i jj m : Nat) (hi : i < n) (hjj : jj = i + 1) (hmm : n = m + 1) :
    Calls Tryz.prog 96 #[.slice (some ⟨g, off, none⟩) n cap, .int .i64 (i : Int), .int .i64 (jj : Int)] w fun e w' => e = .returned (.slice (some ⟨g, off, none⟩) m cap) ∧ SegAt w' g off (L.eraseIdx i) ∧ SegFr w w' g off (off + n * 3) := by
  obtain ⟨news, hnews⟩ : ∃ news, news = encPs (L.drop (i + 1)) := ⟨_, rfl⟩
  have hnl : news.length = (n - (i + 1)) * 3 := by rw [hnews, length_encPs, List.length_drop, hn]
  have hsd : SegAt w.drew g off L := hs.fr (Fr.drew w (fun _ => False)) (fun h => h)
  have hcell : ∀ j u, news[j]? = some u → w.drew.cell? ⟨g, off + (i + 1) * 3 + j, none⟩ = some u := fun j u hu => by
    have hd : encPs L = encPs (L.take (i + 1)) ++ encPs (L.drop (i + 1)) := by rw [← encPs_append, List.take_append_drop]
    have : (encPs L)[(i + 1) * 3 + j]? = some u := by
      rw [hd, List.getElem?_append_right (by rw [length_encPs, List.length_take]; omega), length_encPs, List.length_take, ← hnews, show (i + 1) * 3 + j - min (i + 1) L.length * 3 = j by omega]
      exact hu
    have := hsd.cell this
    rw [← Nat.add_assoc] at this
    exact this
  obtain ⟨W1, hW1⟩ : ∃ W1, W1 = w.drew.setCells g (off + i * 3) news := ⟨_, rfl⟩
  obtain ⟨W2, hW2⟩ : ∃ W2, W2 = W1.setCells g (off + (n - 1) * 3) zero3 := ⟨_, rfl⟩
  have hall : ∀ j, j < n * 3 → (w.drew.cell? ⟨g, off + j, none⟩).isSome = true := fun j hj => by
    obtain ⟨u, hu⟩ : ∃ u, (encPs L)[j]? = some u := ⟨_, List.getElem?_eq_getElem (by rw [length_encPs]; omega)⟩
    rw [hsd.cell hu]; rfl
  have hin1 : ∀ j, j < news.length → (w.drew.cell? ⟨g, off + i * 3 + j, none⟩).isSome = true := fun j hj => by rw [Nat.add_assoc]; exact hall _ (by omega)
  have hall1 : ∀ j, j < n * 3 → (W1.cell? ⟨g, off + j, none⟩).isSome = true := fun j hj => by
    rw [hW1]
    by_cases h1 : j < i * 3 ∨ i * 3 + news.length ≤ j
    · rw [World.cell?_setCells_out g news (off + i * 3) w.drew _ (fun _ _ => by show off + j < off + i * 3 ∨ off + i * 3 + news.length ≤ off + j; omega)]
      exact hall j hj
    · have := World.cell?_setCells_in g news (off + i * 3) w.drew hin1 (j - i * 3) (by omega)
      rw [show off + i * 3 + (j - i * 3) = off + j by omega] at this
      rw [this]; rfl
  have hz1 : ∀ k, W1.frozen? ⟨g, k, none⟩ = false := fun k => by rw [hW1, World.frozen?_setCells]; exact hsd.z k
  have hcl : ∀ ty, (Builtin.clear_ #[40] ty #[.slice (some ⟨g, off + m * 3, none⟩) (n - m) (cap - m)]).run Tryz.prog W1 = .ok (.tuple #[]) W2 := fun ty => by
    rw [hW2, show n - m = 1 by omega, show n - 1 = m by omega]
    exact run_clear1 W1 ty g _ _ (fun j hj => by rw [Nat.add_assoc]; exact hall1 _ (by omega)) (fun j _ => hz1 _)
  have hfr1 : SegFr w W1 g off (off + n * 3) := by
    have h1 : SegFr w w.drew g off (off + n * 3) := SegFr.ofFr (Fr.drew w (fun _ => False)) hs.lt (fun _ _ h => h)
    rw [hW1]
    exact h1.trans (segFr_set news (by omega) (by omega))
  have hfr2 : SegFr w W2 g off (off + n * 3) := by
    rw [hW2]
    exact hfr1.trans (segFr_set zero3 (by omega) (by simp [zero3]; omega))
  have hseg : SegAt W2 g off (L.eraseIdx i) := by
    refine seg_of_cells (fun j u hu => ?_) (fun k => by rw [hfr2.z]; exact hs.z k) (Nat.lt_of_lt_of_le hs.lt hfr2.f.size)
    have he : encPs (L.eraseIdx i) = encPs (L.take i) ++ news := by rw [List.eraseIdx_eq_take_drop_succ, encPs_append, hnews]
    have hti : (encPs (L.take i)).length = i * 3 := by rw [length_encPs, List.length_take]; congr 1; omega
    have hjl : j < (n - 1) * 3 := by
      have := (List.getElem?_eq_some_iff.1 hu).1
      rw [he, List.length_append, hti, hnl] at this
      omega
    rw [hW2, World.cell?_setCells_out g zero3 _ W1 _ (fun _ _ => by show off + j < off + (n - 1) * 3 ∨ _; omega), hW1]
    rw [he] at hu
    by_cases h1 : j < i * 3
    · rw [List.getElem?_append_left (by omega)] at hu
      rw [World.cell?_setCells_out g news (off + i * 3) w.drew _ (fun _ _ => by show off + j < off + i * 3 ∨ _; omega)]
      refine hsd.cell ?_
      have hd : encPs L = encPs (L.take i) ++ encPs (L.drop i) := by rw [← encPs_append, List.take_append_drop]
      rw [hd, List.getElem?_append_left (by omega)]
      exact hu
    · rw [List.getElem?_append_right (by omega), hti] at hu
      have hjn : j - i * 3 < news.length := (List.getElem?_eq_some_iff.1 hu).1
      have := World.cell?_setCells_in g news (off + i * 3) w.drew hin1 (j - i * 3) hjn
      rw [show off + i * 3 + (j - i * 3) = off + j by omega] at this
      rw [this, ← hu]
      exact (List.getElem?_eq_getElem hjn).symm
  have HRES := hide (And.intro hseg hfr2)
  obtain ⟨ti, hti, hz, hsz, hby⟩ := full28
  have hap : ∀ (A : Addr), (∀ j u, news[j]? = some u → w.drew.cell? (A.add j) = some u) → (Builtin.append_ #[40, 40] 40 #[.slice (some ⟨g, off, none⟩) i cap, .slice (some A) (n - (i + 1)) (cap - (i + 1))]).run Tryz.prog w.drew = .ok (.slice (some ⟨g, off, none⟩) (i + (n - (i + 1))) cap) W1 := fun A hA => by
    have := run_append_room_cells (P := Tryz.prog) (w := w.drew) 40 40 35 ti Tryz.underlying40 hti g off i cap A (n - (i + 1)) (cap - (i + 1)) news (by rw [hsz]; exact hnl) hA (fun u hu => encPs_some (by rw [← hnews]; exact hu)) (by omega) (by rw [hsz]; exact hin1) (by rw [hsz]; exact fun j _ => hsd.z _)
    rw [this, hsz, ← hW1]
  have HAP := hide hap
  have HCE := hide hcell
  have hlast : i + (n - (i + 1)) = m := by omega
  rw [hlast] at HAP
  clear hap hcell hseg hfr2 hfr1 hz1 hall1 hin1 hall hW1 hW2 hsd hs hti hz hsz hby hnews hlast
  have hic : i ≤ cap := by omega
  have hjc : jj ≤ cap := by omega
  have hjn : jj ≤ n := by omega
  have hij : i ≤ jj := by omega
  have hij2 : ¬ (i = jj) := by omega
  have hij3 : ((i : Int) == (jj : Int)) = false := by simp; omega
  have hmn : m ≤ n := by omega
  have hmc : m ≤ cap := by omega
  have hmc2 : ¬ (cap = m) := by omega
  rw [← hjj] at HAP HCE hnl
  obtain ⟨A, hA, hsrc⟩ : ∃ A : Addr, (if cap = jj then some (⟨g, off, none⟩ : Addr) else some ⟨g, off + jj * 3, none⟩) = some A ∧ Hid (∀ j u, news[j]? = some u → w.drew.cell? (A.add j) = some u) := by
    by_cases h : cap = jj
    · refine ⟨⟨g, off, none⟩, by simp [h], fun t u hu => ?_⟩
      have h0 : news.length = 0 := by rw [hnl]; omega
      rw [List.length_eq_zero_iff.1 h0] at hu
      simp at hu
    · exact ⟨⟨g, off + jj * 3, none⟩, by simp [h], fun t u hu => by rw [Addr.add_mid]; exact HCE.out t u hu⟩
  have hrun := HAP.out A hsrc.out
  clear HAP HCE hsrc hnl hmm hjj hn hi
  go_enter Tryz.func96, Tryz.ntmps96
  go_wp2_with fail
  refine wp_region_K (fun z => decide (z < 6)) (fun U : World => True) (by kernel_rfl) ?_
  have hS : (fun U : World => True) w.drew := trivial
  refine wpAnyK_takeTo 0 (some 20) (.slice (some ⟨g, off, none⟩) n cap) [2, 6, 7] rfl rfl (by kernel_rfl) (by kernel_rfl) (by kernel_rfl) (by kernel_rfl) (fun _ _ _ h => h) hS (Or.inl ⟨rfl, fun w1 hw1 => by go_simp⟩) ?_
  simp only [Act.put, List.setIfInBounds_toArray, List.set_cons_zero, List.set_cons_succ]
  refine wpAnyK_takeTo 1 (some 21) (.int .i64 (i : Int)) [2, 6, 7] rfl rfl (by kernel_rfl) (by kernel_rfl) (by kernel_rfl) (by kernel_rfl) (fun _ _ _ h => h) hS (Or.inl ⟨rfl, fun w1 hw1 => by go_simp⟩) ?_
  simp only [Act.put, List.setIfInBounds_toArray, List.set_cons_zero, List.set_cons_succ]
  refine wpAnyK_takeTo 2 (some 22) (.slice (some ⟨g, off, none⟩) i cap) [6, 7] rfl rfl (by kernel_rfl) (by kernel_rfl) (by kernel_rfl) (by kernel_rfl) (fun _ _ _ h => h) hS (Or.inl ⟨rfl, fun w1 hw1 => by go_simp⟩) ?_
  simp only [Act.put, List.setIfInBounds_toArray, List.set_cons_zero, List.set_cons_succ]
  refine wpAnyK_takeTo 3 (some 23) (.slice (some ⟨g, off, none⟩) n cap) [5, 6, 7] rfl rfl (by kernel_rfl) (by kernel_rfl) (by kernel_rfl) (by kernel_rfl) (fun _ _ _ h => h) hS (Or.inl ⟨rfl, fun w1 hw1 => by go_simp⟩) ?_
  simp only [Act.put, List.setIfInBounds_toArray, List.set_cons_zero, List.set_cons_succ]
  refine wpAnyK_takeTo 4 (some 24) (.int .i64 (jj : Int)) [5, 6, 7] rfl rfl (by kernel_rfl) (by kernel_rfl) (by kernel_rfl) (by kernel_rfl) (fun _ _ _ h => h) hS (Or.inl ⟨rfl, fun w1 hw1 => by go_simp⟩) ?_
  simp only [Act.put, List.setIfInBounds_toArray, List.set_cons_zero, List.set_cons_succ]
  refine wpAnyK_takeTo 5 (some 25) (.slice (some A) (n - jj) (cap - jj)) [6, 7] rfl rfl (by kernel_rfl) (by kernel_rfl) (by kernel_rfl) (by kernel_rfl) (fun _ _ _ h => h) hS (Or.inl ⟨rfl, fun w1 hw1 => by go_simp⟩) ?_
  simp only [Act.put, List.setIfInBounds_toArray, List.set_cons_zero, List.set_cons_succ]
  refine wpAnyK_one (i := 6) (by kernel_rfl) rfl rfl ?_
  refine wp_append_to (.tmp 22) (.tmp 25) 40 rfl _ rfl _ rfl (.slice (some ⟨g, off, none⟩) i cap) (.slice (some A) (n - jj) (cap - jj)) rfl rfl _ _ hrun ?_
  refine ⟨fun h => by simp at h, ?_⟩
  simp only [Act.put, List.setIfInBounds_toArray, List.set_cons_zero, List.set_cons_succ]
  refine wpAnyK_one (i := 7) (by kernel_rfl) rfl rfl ?_
  go_simp
  refine wpAnyK_done (by kernel_rfl) ?_ _
  clear hS hrun hA
  go_wp2
  go_ret
  exact ⟨rfl, HRES.out.1, HRES.out.2⟩
end Go.Proofs.YtigkinakhijfoaaGreat.Ps
