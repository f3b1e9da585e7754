/- Nodes by their blocks alone: items and kids are put in and taken out. -/
import Derived.Test.YtiicgfipmdgnhaaN
namespace Go.Proofs.Ytiicgfipmdgnhaa
open Go.RowKit
set_option maxRecDepth 100000
set_option linter.unusedVariables false
set_option linter.unusedSimpArgs false

def pts (gs : List Nat) : List Value := gs.map (fun g => .pointer (some ⟨g, 0, none⟩))
theorem ptrs_pts (ks : List Kd) : ptrs ks = pts (ks.map Kd.g) := by unfold ptrs pts; simp
theorem pts_one (gs : List Nat) : ∀ u ∈ pts gs, u.oneCell' = true := fun u hu => by
  obtain ⟨x, _, rfl⟩ := List.mem_map.1 hu
  rfl
theorem pts_length (gs : List Nat) : (pts gs).length = gs.length := by unfold pts; simp
/-- A node's own blocks. -/
def SetOf (g : Nat) (lv kv : Value) (k : Nat) : Prop := k = g ∨ lv.ownBlock = some k ∨ kv.ownBlock = some k
/-- A node in memory, without its kids' trees. -/
structure Raw (w : World) (g : Nat) (t : Int) (lv kv : Value) (L : List It) (gs : List Nat) (S : Nat → Prop) : Prop where
  box : w.heap[g]? = some (.cells #[.int .i64 t, lv, kv] 49 (0, 0))
  row : w.ownsRow 0 69 2 lv L.length (encI L)
  krow : w.ownsRow 0 45 1 kv gs.length (pts gs)
  ins : ∀ k, SetOf g lv kv k → S k
  lt : ∀ k, S k → k < w.heap.size
theorem Raw.fr {w w' : World} {g : Nat} {t : Int} {lv kv : Value} {L : List It} {gs : List Nat} {S Z : Nat → Prop} (h : Raw w g t lv kv L gs S) (hf : Fr w w' Z) (hz : ∀ k, S k → ¬ Z k) : Raw w' g t lv kv L gs S :=
  ⟨by rw [hf.block g (h.lt _ (h.ins _ (.inl rfl))) (hz _ (h.ins _ (.inl rfl)))]; exact h.box, ownsRow_fr h.row hf (fun k hk => hz k (h.ins k (.inr (.inl hk)))), ownsRow_fr h.krow hf (fun k hk => hz k (h.ins k (.inr (.inr hk)))), h.ins, fun k hk => Nat.lt_of_lt_of_le (h.lt k hk) hf.size⟩
theorem own_type {w : World} {e : TypeId} {z : Nat} {v : Value} {n : Nat} {xs : List Value} (h : w.ownsRow 0 e z v n xs) {k : Nat} (hk : v.ownBlock = some k) : ∃ cur, w.heap[k]? = some (.cells cur e (0, 0)) := by
  rcases h.2 with ⟨e1, _⟩ | ⟨g, cap, c, e1, _, hg, _⟩
  · rw [e1] at hk; cases hk
  · rw [e1] at hk; cases hk; exact ⟨c, hg⟩
theorem Raw.three {w : World} {g : Nat} {t : Int} {lv kv : Value} {L : List It} {gs : List Nat} {S : Nat → Prop} (h : Raw w g t lv kv L gs S) : (∀ k, lv.ownBlock = some k → k ≠ g) ∧ (∀ k, kv.ownBlock = some k → k ≠ g) ∧ ∀ k, lv.ownBlock = some k → kv.ownBlock ≠ some k := by
  refine ⟨fun k hk e => ?_, fun k hk e => ?_, fun k hk e => ?_⟩
  · obtain ⟨c, hc⟩ := own_type h.row hk
    rw [e, h.box] at hc; cases hc
  · obtain ⟨c, hc⟩ := own_type h.krow hk
    rw [e, h.box] at hc; cases hc
  · obtain ⟨c, hc⟩ := own_type h.row hk
    obtain ⟨c', hc'⟩ := own_type h.krow e
    rw [hc] at hc'; cases hc'
theorem Raw.cells {w : World} {g : Nat} {t : Int} {lv kv : Value} {L : List It} {gs : List Nat} {S : Nat → Prop} (h : Raw w g t lv kv L gs S) : w.cell? ⟨g, 0, none⟩ = some (.int .i64 t) ∧ w.cell? ⟨g, 1, none⟩ = some lv ∧ w.cell? ⟨g, 2, none⟩ = some kv :=
  ⟨(cell_of_row _ _ _ _ _ _ h.box).trans rfl, (cell_of_row _ _ _ _ _ _ h.box).trans rfl, (cell_of_row _ _ _ _ _ _ h.box).trans rfl⟩
theorem Raw.frozen {w : World} {g : Nat} {t : Int} {lv kv : Value} {L : List It} {gs : List Nat} {S : Nat → Prop} (h : Raw w g t lv kv L gs S) (o : Nat) : w.frozen? ⟨g, o, none⟩ = false := block_frozen h.box o
theorem Raw.shape {w : World} {g : Nat} {t : Int} {lv kv : Value} {L : List It} {gs : List Nat} {S : Nat → Prop} (h : Raw w g t lv kv L gs S) : ∃ la lc ka kc', lv = .slice la L.length lc ∧ kv = .slice ka gs.length kc' := by
  obtain ⟨la, lc, e1⟩ := shape_n h.row
  obtain ⟨ka, kc', e2⟩ := shape_n h.krow
  exact ⟨la, lc, ka, kc', e1, e2⟩
/-- Other items. -/
theorem Raw.setL {w w1 : World} {g : Nat} {t : Int} {lv kv : Value} {L : List It} {gs : List Nat} {S : Nat → Prop} (h : Raw w g t lv kv L gs S) {lv' : Value} {L' : List It} (hr : w1.ownsRow 0 69 2 lv' L'.length (encI L')) (hf : Fr w w1 (fun k => lv.ownBlock = some k)) (hn : Fresh w lv lv') :
    Raw (w1.setCell ⟨g, 1, none⟩ lv') g t lv' kv L' gs (fun k => S k ∨ (w.heap.size ≤ k ∧ k < (w1.setCell ⟨g, 1, none⟩ lv').heap.size)) ∧ Fr w (w1.setCell ⟨g, 1, none⟩ lv') S ∧ w1.cell? ⟨g, 1, none⟩ = some lv ∧ w1.frozen? ⟨g, 1, none⟩ = false := by
  have h3 := h.three
  have hg := h.lt g (h.ins g (.inl rfl))
  have hb1 : w1.heap[g]? = some (.cells #[.int .i64 t, lv, kv] 49 (0, 0)) := by rw [hf.block g hg (fun hk => h3.1 g hk rfl)]; exact h.box
  have f2 := Fr.setCell w1 ⟨g, 1, none⟩ lv'
  have hsz := hf.size
  have hl' : ∀ k, lv'.ownBlock = some k → k ≠ g := fun k hk e => by
    rcases hn with hn | ⟨q, hq, hle⟩
    · rw [hn] at hk; exact h3.1 k hk e
    · rw [hq] at hk; cases hk; omega
  have hrow := ownsRow_fr hr f2 (fun k hk e => hl' k hk e)
  refine ⟨⟨heap_setCell_here w1 g 1 lv' _ _ _ hb1, hrow, ownsRow_fr (ownsRow_fr h.krow hf (fun k hk e => h3.2.2 k e hk)) f2 (fun k hk e => h3.2.1 k hk e), fun k hk => ?_, fun k hk => ?_⟩, (hf.trans f2).mono (fun k _ hk => ?_), (cell_of_row _ _ _ _ _ _ hb1).trans rfl, block_frozen hb1 _⟩
  · rcases hk with hk | hk | hk
    · exact .inl (h.ins k (.inl hk))
    · rcases hn with hn | ⟨q, hq, hle⟩
      · rw [hn] at hk; exact .inl (h.ins k (.inr (.inl hk)))
      · rw [hq] at hk; cases hk; exact .inr ⟨hle, ownsRow_lt hrow hq⟩
    · exact .inl (h.ins k (.inr (.inr hk)))
  · rcases hk with hk | hk
    · have := h.lt k hk; have := f2.size; omega
    · exact hk.2
  · rcases hk with hk | hk
    · exact h.ins k (.inr (.inl hk))
    · exact h.ins k (.inl hk)
/-- Other kids. -/
theorem Raw.setK {w w1 : World} {g : Nat} {t : Int} {lv kv : Value} {L : List It} {gs : List Nat} {S : Nat → Prop} (h : Raw w g t lv kv L gs S) {kv' : Value} {gs' : List Nat} (hr : w1.ownsRow 0 45 1 kv' gs'.length (pts gs')) (hf : Fr w w1 (fun k => kv.ownBlock = some k)) (hn : Fresh w kv kv') :
    Raw (w1.setCell ⟨g, 2, none⟩ kv') g t lv kv' L gs' (fun k => S k ∨ (w.heap.size ≤ k ∧ k < (w1.setCell ⟨g, 2, none⟩ kv').heap.size)) ∧ Fr w (w1.setCell ⟨g, 2, none⟩ kv') S ∧ w1.cell? ⟨g, 2, none⟩ = some kv ∧ w1.frozen? ⟨g, 2, none⟩ = false := by
  have h3 := h.three
  have hg := h.lt g (h.ins g (.inl rfl))
  have hb1 : w1.heap[g]? = some (.cells #[.int .i64 t, lv, kv] 49 (0, 0)) := by rw [hf.block g hg (fun hk => h3.2.1 g hk rfl)]; exact h.box
  have f2 := Fr.setCell w1 ⟨g, 2, none⟩ kv'
  have hsz := hf.size
  have hl' : ∀ k, kv'.ownBlock = some k → k ≠ g := fun k hk e => by
    rcases hn with hn | ⟨q, hq, hle⟩
    · rw [hn] at hk; exact h3.2.1 k hk e
    · rw [hq] at hk; cases hk; omega
  have hrow := ownsRow_fr hr f2 (fun k hk e => hl' k hk e)
  refine ⟨⟨heap_setCell_here w1 g 2 kv' _ _ _ hb1, ownsRow_fr (ownsRow_fr h.row hf (fun k hk e => h3.2.2 k hk e)) f2 (fun k hk e => h3.1 k hk e), hrow, fun k hk => ?_, fun k hk => ?_⟩, (hf.trans f2).mono (fun k _ hk => ?_), (cell_of_row _ _ _ _ _ _ hb1).trans rfl, block_frozen hb1 _⟩
  · rcases hk with hk | hk | hk
    · exact .inl (h.ins k (.inl hk))
    · exact .inl (h.ins k (.inr (.inl hk)))
    · rcases hn with hn | ⟨q, hq, hle⟩
      · rw [hn] at hk; exact .inl (h.ins k (.inr (.inr hk)))
      · rw [hq] at hk; cases hk; exact .inr ⟨hle, ownsRow_lt hrow hq⟩
  · rcases hk with hk | hk
    · have := h.lt k hk; have := f2.size; omega
    · exact hk.2
  · rcases hk with hk | hk
    · exact h.ins k (.inr (.inr hk))
    · exact h.ins k (.inl hk)
theorem NodeP.raw {cur : Int} {w : World} {d : Kd} {t : Int} {lv kv : Value} {L : List It} {ks : List Kd} (h : NodeP cur w d t lv kv L ks) : Raw w d.g t lv kv L (ks.map Kd.g) (SetOf d.g lv kv) :=
  ⟨h.box, h.row, by rw [List.length_map, ← ptrs_pts]; exact h.krow, fun _ hk => hk, fun k hk => by
    rcases hk with rfl | hk | hk
    · exact h.xlt _ h.gx
    · exact h.xlt _ (h.lx k hk)
    · exact h.xlt _ (h.kx k hk)⟩
theorem NodeP.setX {cur : Int} {w : World} {d : Kd} {t : Int} {lv kv : Value} {L : List It} {ks : List Kd} (h : NodeP cur w d t lv kv L ks) : (∀ k, SetOf d.g lv kv k → d.X k) ∧ (t = cur → ∀ k, SetOf d.g lv kv k → d.Y k) ∧ ∀ e ∈ ks, ∀ k, e.X k → ¬ SetOf d.g lv kv k :=
  ⟨fun k hk => by
    rcases hk with rfl | hk | hk
    · exact h.gx
    · exact h.lx k hk
    · exact h.kx k hk, fun ht k hk => by
    rcases hk with rfl | hk | hk
    · exact h.gy ht
    · exact h.ly ht k hk
    · exact h.ky ht k hk, fun e he k hx hk => by
    rcases hk with rfl | hk | hk
    · exact h.apg e he hx
    · exact h.apl e he k hk hx
    · exact h.apk e he k hk hx⟩
/-- Kids that are apart. -/
def Apart (ks : List Kd) : Prop := ∀ (i j : Nat) (x y : Kd), ks[i]? = some x → ks[j]? = some y → i ≠ j → ∀ k, x.X k → ¬ y.X k
theorem Raw.node {cur : Int} {w : World} {g : Nat} {lv kv : Value} {L : List It} {ks : List Kd} {S : Nat → Prop} (h : Raw w g cur lv kv L (ks.map Kd.g) S) (hx : ∀ e ∈ ks, ∀ k, e.X k → ¬ S k ∧ k < w.heap.size) (hy : ∀ e ∈ ks, ∀ k, e.Y k → e.X k) (ha : Apart ks) (F : List It) :
    NodeP cur w ⟨g, fun k => S k ∨ ∃ e ∈ ks, e.X k, fun k => S k ∨ ∃ e ∈ ks, e.Y k, F⟩ cur lv kv L ks :=
  { box := h.box
    row := h.row
    krow := by have := h.krow; rw [List.length_map, ← ptrs_pts] at this; exact this
    gx := .inl (h.ins _ (.inl rfl))
    lx := fun k hk => .inl (h.ins k (.inr (.inl hk)))
    kx := fun k hk => .inl (h.ins k (.inr (.inr hk)))
    gy := fun _ => .inl (h.ins _ (.inl rfl))
    ly := fun _ k hk => .inl (h.ins k (.inr (.inl hk)))
    ky := fun _ k hk => .inl (h.ins k (.inr (.inr hk)))
    tle := Int.le_refl _
    yx := fun k hk => hk.imp id (fun ⟨e, he, hk⟩ => ⟨e, he, hy e he k hk⟩)
    xlt := fun k hk => by
      rcases hk with hk | ⟨e, he, hk⟩
      · exact h.lt k hk
      · exact (hx e he k hk).2
    sx := fun e he k hk => .inr ⟨e, he, hk⟩
    sy := fun e he k hk => .inr ⟨e, he, hk⟩
    yk := hy
    apg := fun e he hk => (hx e he _ hk).1 (h.ins _ (.inl rfl))
    apl := fun e he k hk hxk => (hx e he _ hxk).1 (h.ins k (.inr (.inl hk)))
    apk := fun e he k hk hxk => (hx e he _ hxk).1 (h.ins k (.inr (.inr hk)))
    apart := ha }
theorem Apart.sub {ks ks' : List Kd} (h : Apart ks) (f : Nat → Nat) (hf : ∀ i j, f i = f j → i = j) (hk : ∀ i x, ks'[i]? = some x → ks[f i]? = some x) : Apart ks' := fun i j x y hx hy hij => h (f i) (f j) x y (hk i x hx) (hk j y hy) (fun e => hij (hf i j e))
theorem Apart.take {ks : List Kd} (h : Apart ks) (n : Nat) : Apart (ks.take n) := h.sub id (fun _ _ e => e) (fun i x hx => by
  rw [List.getElem?_take] at hx
  split at hx
  · exact hx
  · cases hx)
theorem Apart.drop {ks : List Kd} (h : Apart ks) (n : Nat) : Apart (ks.drop n) := h.sub (fun i => n + i) (fun _ _ e => by omega) (fun i x hx => by rw [List.getElem?_drop] at hx; exact hx)
theorem Apart.app {A B : List Kd} (ha : Apart A) (hb : Apart B) (hab : ∀ x ∈ A, ∀ y ∈ B, ∀ k, x.X k → ¬ y.X k) : Apart (A ++ B) := fun i j x y hx hy hij k hxk hyk => by
  rw [List.getElem?_append] at hx hy
  split at hx
  · split at hy
    · exact ha i j x y hx hy hij k hxk hyk
    · exact hab x (List.mem_of_getElem? hx) y (List.mem_of_getElem? hy) k hxk hyk
  · split at hy
    · exact hab y (List.mem_of_getElem? hy) x (List.mem_of_getElem? hx) k hyk hxk
    · exact hb _ _ x y hx hy (by omega) k hxk hyk
theorem Apart.cross {A B : List Kd} (h : Apart (A ++ B)) : ∀ x ∈ A, ∀ y ∈ B, ∀ k, x.X k → ¬ y.X k := fun x hx y hy => by
  obtain ⟨i, hi⟩ := List.mem_iff_getElem?.1 hx
  obtain ⟨j, hj⟩ := List.mem_iff_getElem?.1 hy
  have hil := (List.getElem?_eq_some_iff.1 hi).1
  exact h i (A.length + j) x y (by rw [List.getElem?_append_left hil]; exact hi) (by rw [List.getElem?_append_right (by omega), Nat.add_sub_cancel_left]; exact hj) (by omega)
theorem Apart.left {A B : List Kd} (h : Apart (A ++ B)) : Apart A := by have := h.take A.length; rwa [List.take_left] at this
theorem Apart.right {A B : List Kd} (h : Apart (A ++ B)) : Apart B := by have := h.drop A.length; rwa [List.drop_left] at this
theorem Apart.one (d : Kd) : Apart [d] := fun i j x y hx hy hij => by
  have h1 : i = 0 := by have := (List.getElem?_eq_some_iff.1 hx).1; simpa using this
  have h2 : j = 0 := by have := (List.getElem?_eq_some_iff.1 hy).1; simpa using this
  omega
end Go.Proofs.Ytiicgfipmdgnhaa
