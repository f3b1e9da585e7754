/- Sorted numbers, each once; rows of numbers of the call's own. -/
import Derived.Test.YtaikhmedehbfbaaCt
import Derived.Shelf.SortG.Plain
import Derived.Shelf.SortG.SortNone
namespace Go.Proofs.Ytaikhmedehbfbaa
open Go.RowKit Go.Sort
set_option linter.unusedVariables false

theorem compact_spec (d : Array Int) (hs : ∀ i j, i < j → j < d.size → d[i]! ≤ d[j]!) : ∀ m, m ≤ d.size → (∀ t, t ∈ Lib.compactUpTo d m ↔ ∃ j, j < m ∧ d[j]! = t) ∧ (Lib.compactUpTo d m).Pairwise (· < ·)
  | 0, _ => by simp [Lib.compactUpTo]
  | m + 1, hm => by
    obtain ⟨h1, h2⟩ := compact_spec d hs m (by omega)
    rw [Lib.compactUpTo_succ]
    by_cases hk : Lib.keeps d m = true
    · rw [if_pos hk]
      refine ⟨fun t => ?_, ?_⟩
      · rw [List.mem_append, h1, List.mem_singleton]
        constructor
        · rintro (⟨j, hj, e⟩ | e)
          · exact ⟨j, by omega, e⟩
          · exact ⟨m, by omega, e.symm⟩
        · rintro ⟨j, hj, e⟩
          by_cases hjm : j = m
          · subst hjm; exact .inr e.symm
          · exact .inl ⟨j, by omega, e⟩
      · rw [List.pairwise_append]
        refine ⟨h2, by simp, fun x hx y hy => ?_⟩
        rw [List.mem_singleton] at hy
        subst hy
        obtain ⟨j, hj, rfl⟩ := (h1 x).1 hx
        have hne : d[m]! ≠ d[m - 1]! := by
          simp only [Lib.keeps, decide_eq_true_eq] at hk
          rcases hk with hk | hk
          · omega
          · exact hk
        have h3 := hs (m - 1) m (by omega) (by omega)
        have h4 : d[j]! ≤ d[m - 1]! := by
          by_cases hj1 : j = m - 1
          · subst hj1; exact Int.le_refl _
          · exact hs j (m - 1) (by omega) (by omega)
        omega
    · rw [if_neg hk, List.append_nil]
      refine ⟨fun t => ?_, h2⟩
      rw [h1]
      constructor
      · rintro ⟨j, hj, e⟩; exact ⟨j, by omega, e⟩
      · rintro ⟨j, hj, e⟩
        by_cases hjm : j = m
        · subst hjm
          simp only [Lib.keeps, decide_eq_true_eq, not_or, ne_eq, Classical.not_not] at hk
          exact ⟨j - 1, by omega, by rw [← hk.2]; exact e⟩
        · exact ⟨j, by omega, e⟩
theorem rising_of : ∀ {l : List Int}, l.Pairwise (· < ·) → Rising l
  | [], _ => trivial
  | [_], _ => trivial
  | a :: b :: r, h => ⟨(List.pairwise_cons.1 h).1 b (by simp), rising_of (List.pairwise_cons.1 h).2⟩
theorem compact_sorted (zs : List Int) (hs : zs.Pairwise (· ≤ ·)) : Rising (Lib.compact zs) ∧ ∀ t, t ∈ Lib.compact zs ↔ t ∈ zs := by
  have h0 : ∀ i j, i < j → j < zs.toArray.size → zs.toArray[i]! ≤ zs.toArray[j]! := by
    intro i j hij hj
    have hj' : j < zs.length := by simpa using hj
    have := List.pairwise_iff_getElem.1 hs i j (by omega) hj' hij
    simpa [getElem!_pos, hj', show i < zs.length by omega] using this
  obtain ⟨h1, h2⟩ := compact_spec zs.toArray h0 zs.length (by simp)
  refine ⟨rising_of h2, fun t => ?_⟩
  unfold Lib.compact
  rw [h1]
  constructor
  · rintro ⟨j, hj, e⟩
    rw [← e]
    simp [getElem!_pos, hj]
  · intro ht
    obtain ⟨j, hj, rfl⟩ := List.mem_iff_getElem.1 ht
    exact ⟨j, hj, by simp [getElem!_pos, hj]⟩
theorem compact_len (zs : List Int) : (Lib.compact zs).length ≤ zs.length := by
  unfold Lib.compact Lib.compactUpTo
  rw [List.length_map]
  exact Nat.le_trans (List.length_filter_le _ _) (by simp)

/-- A row of numbers of the call's own. -/
def OwnI (w : World) (v : Value) (L : List Int) : Prop := w.ownsRow 0 2 1 v L.length (L.map (Value.int .i64))
theorem OwnI.nil (w : World) : OwnI w (.slice none 0 0) [] := World.ownsRow_nil w 0 2 1
theorem OwnI.fr {w w' : World} {X : Nat → Prop} {v : Value} {L : List Int} (h : OwnI w v L) (hf : Fr w w' X) (hx : ∀ k, v.ownBlock = some k → ¬ X k) : OwnI w' v L := ownsRow_fr h hf hx
theorem OwnI.shape {w : World} {v : Value} {L : List Int} (h : OwnI w v L) : ∃ a c, v = .slice a L.length c ∧ L.length ≤ c := by
  rcases h.2 with ⟨h1, h2⟩ | ⟨g, cap, cur, hv, _, _, hle, _⟩
  · exact ⟨none, 0, by rw [h1, h2], by omega⟩
  · exact ⟨_, cap, hv, hle⟩
theorem OwnI.at {w : World} {a : Option Addr} {n c : Nat} {L : List Int} (h : OwnI w (.slice a n c) L) (j : Nat) (s : Int) (hs : L[j]? = some s) : ∃ g, a = some ⟨g, 0, none⟩ ∧ w.cell? ⟨g, j, none⟩ = some (.int .i64 s) := by
  rcases h.2 with ⟨h1, h2⟩ | ⟨g, cap, cur, hv, _, hg, hle, _, hcs, htk⟩
  · have : L = [] := List.eq_nil_of_length_eq_zero h2
    subst this
    simp at hs
  · simp only [Value.slice.injEq] at hv
    obtain ⟨rfl, rfl, rfl⟩ := hv
    refine ⟨g, rfl, ?_⟩
    rw [cell_of_row _ _ _ _ _ _ hg, ← Array.getElem?_toList]
    have h3 : (L.map (Value.int .i64))[j]? = some (.int .i64 s) := by simp [hs]
    rw [← htk, List.getElem?_take] at h3
    split at h3
    · exact h3
    · cases h3
theorem full2 : ∃ i, Try.prog.info? 2 = some i ∧ i.zero = some (.int .i64 0) ∧ i.size = 1 ∧ i.bytes = 8 := by
  have h0 : (Try.prog.info? 2).isSome = true := by kernel_rfl
  have h1 : (Try.prog.info? 2).bind (·.zero) = some (.int .i64 0) := by kernel_rfl
  have h2 : (Try.prog.info? 2).map (·.size) = some 1 := by kernel_rfl
  have h3 : (Try.prog.info? 2).map (·.bytes) = some 8 := by kernel_rfl
  obtain ⟨i, hi⟩ := Option.isSome_iff_exists.1 h0
  rw [hi] at h1 h2 h3
  exact ⟨i, hi, h1, Option.some.inj h2, Option.some.inj h3⟩
/-- Numbers that were just laid go behind a row of the call's own. -/
theorem wpList_pushI {w : World} {ops : Array Oper} {rest : List Oper} {o : Oper} {act : Act} {Q : Exit → Act → World → Prop} (hgd : o.guard = none) (s x : Operand)
    (ho : o.op = .call { callee := .builtin .append, args := #[s, x], argTypes := #[26, 26] }) (v : Value) (L : List Int) (hs : act.eval s = v) (hown : OwnI w v L)
    (M : List Int) (g n c : Nat) (hn : M.length = n) (hx : act.eval x = .slice (some ⟨g, 0, none⟩) n c) (hg : w.heap.size = g) (hlen : L.length + M.length ≤ 17592186044416) (cs : Array Value) (hcs : cs = (M.map (Value.int .i64)).toArray)
    (h : ∀ v' w', OwnI w' v' (L ++ M) → Fr w w' (fun k => v.ownBlock = some k) → Fresh w v v' → wpList Try.prog ops Q rest (act.put o.dst v') w') : wpList Try.prog ops Q (o :: rest) act (w.alloc (.cells cs 2)) := by
  subst hg hcs hn
  obtain ⟨i, hi, hz, hs2, hby⟩ := full2
  have A := Fr.alloc w (.cells (M.map (Value.int .i64)).toArray 2) (fun _ => False)
  obtain ⟨v', w', hr, q1, q2, q3⟩ := run_append_gen (P := Try.prog) (w.alloc (.cells (M.map (Value.int .i64)).toArray 2)) 26 o.type 2 i _ 1 8 Try.underlying26 hi hz hs2 hby rfl (by omega) v L.length (L.map (Value.int .i64)) (ownsRow_fr hown A (by simp)) ⟨w.heap.size, 0, none⟩ M.length c (M.map (Value.int .i64)) (by simp)
    (fun j u hu => by rw [Addr.add_mid, cell_of_row _ _ _ _ _ _ (heap_alloc_new w _), Nat.zero_add, List.getElem?_toArray]; exact hu) (by intro u hu; simp at hu; obtain ⟨z, _, rfl⟩ := hu; rfl) (by unfold maxLen; omega) (by omega)
  refine wpList_plain hgd fun _ hK => wp_append_to s x 26 ho _ rfl _ rfl _ _ hs hx _ _ hr (hK _ _ (h v' w' ?_ ?_ ?_))
  · unfold OwnI; rw [List.length_append, List.map_append]; exact q1
  · exact (A.trans (Fr.grown q2)).mono (by rintro k _ (h1 | h1); exact h1.elim; exact h1)
  · rcases q3 with h1 | ⟨k, h1, h2⟩
    · exact .inl h1
    · exact .inr ⟨k, h1, by simp at h2; omega⟩

/-- slices.Sort at a row of the call's own. -/
theorem sortI_any (v : Value) (L : List Int) (w : World) (hv : OwnI w v L) (hL : L.length ≤ 17592186044416) :
    Calls Try.prog 21 #[v] w fun e w' => e = .returned (.tuple #[]) ∧ OwnI w' v (L.mergeSort fun x y => decide (x ≤ y)) ∧ Fr w w' (fun k => v.ownBlock = some k) := by
  rcases hv.2 with ⟨h1, h2⟩ | ⟨g, cap, cur, hvv, hb0, hg, hle, hmx, hcs, htk⟩
  · have hn : L = [] := List.eq_nil_of_length_eq_zero h2
    subst hn h1
    refine (AnyG.slices_Sort_int_none Try.sort64 none 0 w).mono ?_
    rintro e w' ⟨rfl, rfl⟩
    exact ⟨rfl, by simpa using OwnI.nil w', Fr.refl _ _⟩
  · subst hvv
    rw [Nat.mul_one] at htk
    refine (AnyG.slices_Sort_int Try.sort64 g 0 cap L w (holds_of_blockI hg htk) (Array.getElem?_eq_some_iff.1 hg).1 (by omega)).mono ?_
    rintro e w' ⟨rfl, n, os, rfl⟩
    have hl : (L.mergeSort fun x y => decide (x ≤ y)).length = L.length := by simp
    refine ⟨rfl, ?_, (Fr.grown (grownBy_sortedI _)).mono (fun k _ h => h)⟩
    unfold OwnI
    rw [hl]
    exact ownsRow_sortedI hl hb0 hg hle hmx hcs
/-- slices.Compact at a row of the call's own. -/
theorem compactI_any (v : Value) (L : List Int) (w : World) (hv : OwnI w v L) (hL : L.length ≤ 17592186044416) :
    Calls Try.prog 22 #[v] w fun e w' => ∃ v', e = .returned v' ∧ OwnI w' v' (Lib.compact L) ∧ v'.ownBlock = v.ownBlock ∧ Fr w w' (fun k => v.ownBlock = some k) := by
  rcases hv.2 with ⟨h1, h2⟩ | ⟨g, cap, cur, hvv, hb0, hg, hle, hmx, hcs, htk⟩
  · have hn : L = [] := List.eq_nil_of_length_eq_zero h2
    subst hn h1
    refine (AnyG.slices_Compact_int_empty Try.compact64 none 0 w).mono ?_
    rintro e w' ⟨rfl, rfl⟩
    exact ⟨_, rfl, OwnI.nil _, rfl, Fr.refl _ _⟩
  · subst hvv
    rw [Nat.mul_one] at htk
    refine (AnyG.slices_Compact_int Try.compact64 g 0 cap L w (holds_of_blockI hg htk) (by omega) hle).mono ?_
    rintro e w' ⟨rfl, q, rfl⟩
    have hcl := compact_len L
    have hgr := grownBy_sortedI (w := w) (g := g) (n := q) (os := #[]) (Lib.compact L ++ List.replicate (L.length - (Lib.compact L).length) 0).toArray
    have hhe := heap_sortedI (w := w) (g := g) (n := q) (os := #[]) (Lib.compact L ++ List.replicate (L.length - (Lib.compact L).length) 0).toArray hg
    have hnil : ∀ V : World, grow V #[] = V := fun V => by simp [grow]
    rw [hnil] at hgr hhe
    refine ⟨_, rfl, ⟨by simp, .inr ⟨g, cap, _, rfl, hb0, hhe, by omega, hmx, by simp [putCells, hcs], ?_⟩⟩, rfl, (Fr.grown hgr).mono (fun k _ h => h)⟩
    have h5 := take_putCellsI cur (Lib.compact L ++ List.replicate (L.length - (Lib.compact L).length) 0) (by simp; omega)
    rw [Nat.mul_one]
    obtain ⟨C, hC⟩ : ∃ C, C = Lib.compact L := ⟨_, rfl⟩
    rw [← hC] at h5 hcl ⊢
    have e1 : (putCells (Value.int .i64) 0 (C ++ List.replicate (L.length - C.length) 0).toArray cur).toList.take C.length = ((putCells (Value.int .i64) 0 (C ++ List.replicate (L.length - C.length) 0).toArray cur).toList.take (C ++ List.replicate (L.length - C.length) 0).length).take C.length := by
      rw [List.take_take]
      congr 1
      simp
    rw [e1, h5, List.map_append, List.take_append_of_le_length (by simp)]
    exact List.take_of_length_le (by simp)
end Go.Proofs.Ytaikhmedehbfbaa
