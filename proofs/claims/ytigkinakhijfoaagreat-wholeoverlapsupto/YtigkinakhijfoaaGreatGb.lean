/- Rows of numbers of the call's own; the library's sort of them. -/
import Derived.Test.YtigkinakhijfoaaGreatB
import Derived.Test.YtigkinakhijfoaaGreatJl
import Derived.Sort.OwnSortedInts
import Derived.Shelf.SortG.Plain
import Derived.Shelf.SortG.SortNone
namespace Go.Proofs.YtigkinakhijfoaaGreat
open Go.Shelf Go.RowKit Go.Lib Go.Sort
set_option maxRecDepth 100000
set_option linter.unusedVariables false

/-- A row of numbers of the call's own. -/
def OwnI (w : World) (v : Value) (L : List Int) : Prop := w.ownsRow 0 2 1 v L.length (L.map (Value.int .i64))
theorem OwnI.nil (w : World) : OwnI w (.slice none 0 0) [] := World.ownsRow_nil w 0 2 1
theorem OwnI.fr {w w' : World} {X : Nat → Prop} {v : Value} {L : List Int} (h : OwnI w v L) (hf : Fr w w' X) (hx : ∀ k, v.ownBlock = some k → ¬ X k) : OwnI w' v L := ownsRow_fr h hf hx
theorem OwnI.shape {w : World} {v : Value} {L : List Int} (h : OwnI w v L) : ∃ a c, v = .slice a L.length c ∧ L.length ≤ c := by
  rcases h.2 with ⟨h1, h2⟩ | ⟨g, cap, cur, hv, _, _, hle, _⟩
  · exact ⟨none, 0, by rw [h1, h2], by omega⟩
  · exact ⟨_, cap, hv, hle⟩
theorem OwnI.at {w : World} {a : Option Addr} {n c : Nat} {L : List Int} (h : OwnI w (.slice a n c) L) (j : Nat) (s : Int) (hs : L[j]? = some s) : ∃ g, a = some ⟨g, 0, none⟩ ∧ w.cell? ⟨g, j, none⟩ = some (.int .i64 s) := by
  rcases h.2 with ⟨h1, h2⟩ | ⟨g, cap, cur, hv, _, hg, hle, _, hcs, htk⟩
  · have : L = [] := List.eq_nil_of_length_eq_zero h2
    subst this
    simp at hs
  · simp only [Value.slice.injEq] at hv
    obtain ⟨rfl, rfl, rfl⟩ := hv
    refine ⟨g, rfl, ?_⟩
    rw [cell_of_row _ _ _ _ _ _ hg, ← Array.getElem?_toList]
    have h3 : (L.map (Value.int .i64))[j]? = some (.int .i64 s) := by simp [hs]
    rw [← htk, List.getElem?_take] at h3
    split at h3
    · exact h3
    · cases h3
theorem full2 : ∃ i, Tryz.prog.info? 2 = some i ∧ i.zero = some (.int .i64 0) ∧ i.size = 1 ∧ i.bytes = 8 := by
  have h0 : (Tryz.prog.info? 2).isSome = true := by kernel_rfl
  have h1 : (Tryz.prog.info? 2).bind (·.zero) = some (.int .i64 0) := by kernel_rfl
  have h2 : (Tryz.prog.info? 2).map (·.size) = some 1 := by kernel_rfl
  have h3 : (Tryz.prog.info? 2).map (·.bytes) = some 8 := by kernel_rfl
  obtain ⟨i, hi⟩ := Option.isSome_iff_exists.1 h0
  rw [hi] at h1 h2 h3
  exact ⟨i, hi, h1, Option.some.inj h2, Option.some.inj h3⟩
/-- Numbers that were just laid go behind a row of the call's own. -/
theorem wpList_pushI {w : World} {ops : Array Oper} {rest : List Oper} {o : Oper} {act : Act} {Q : Exit → Act → World → Prop} (hgd : o.guard = none) (s x : Operand)
    (ho : o.op = .call { callee := .builtin .append, args := #[s, x], argTypes := #[25, 25] }) (v : Value) (L : List Int) (hs : act.eval s = v) (hown : OwnI w v L)
    (M : List Int) (g n c : Nat) (hn : M.length = n) (hx : act.eval x = .slice (some ⟨g, 0, none⟩) n c) (hg : w.heap.size = g) (hlen : L.length + M.length ≤ 17592186044416) (cs : Array Value) (hcs : cs = (M.map (Value.int .i64)).toArray)
    (h : ∀ v' w', OwnI w' v' (L ++ M) → Fr w w' (fun k => v.ownBlock = some k) → Fresh w v v' → wpList Tryz.prog ops Q rest (act.put o.dst v') w') : wpList Tryz.prog ops Q (o :: rest) act (w.alloc (.cells cs 2)) := by
  subst hg hcs hn
  obtain ⟨i, hi, hz, hs2, hby⟩ := full2
  have A := Fr.alloc w (.cells (M.map (Value.int .i64)).toArray 2) (fun _ => False)
  obtain ⟨v', w', hr, q1, q2, q3⟩ := run_append_gen (P := Tryz.prog) (w.alloc (.cells (M.map (Value.int .i64)).toArray 2)) 25 o.type 2 i _ 1 8 Tryz.underlying25 hi hz hs2 hby rfl (by omega) v L.length (L.map (Value.int .i64)) (ownsRow_fr hown A (by simp)) ⟨w.heap.size, 0, none⟩ M.length c (M.map (Value.int .i64)) (by simp)
    (fun j u hu => by rw [Addr.add_mid, cell_of_row _ _ _ _ _ _ (heap_alloc_new w _), Nat.zero_add, List.getElem?_toArray]; exact hu) (by intro u hu; simp at hu; obtain ⟨z, _, rfl⟩ := hu; rfl) (by unfold maxLen; omega) (by omega)
  refine wpList_plain hgd fun _ hK => wp_append_to s x 25 ho _ rfl _ rfl _ _ hs hx _ _ hr (hK _ _ (h v' w' ?_ ?_ ?_))
  · unfold OwnI; rw [List.length_append, List.map_append]; exact q1
  · exact (A.trans (Fr.grown q2)).mono (by rintro k _ (h1 | h1); exact h1.elim; exact h1)
  · rcases q3 with h1 | ⟨k, h1, h2⟩
    · exact .inl h1
    · exact .inr ⟨k, h1, by simp at h2; omega⟩

/-- slices.Sort at a row of the call's own. -/
theorem sortI_any (v : Value) (L : List Int) (w : World) (hv : OwnI w v L) (hL : L.length ≤ 17592186044416) :
    Calls Tryz.prog 24 #[v] w fun e w' => e = .returned (.tuple #[]) ∧ OwnI w' v (L.mergeSort fun x y => decide (x ≤ y)) ∧ Fr w w' (fun k => v.ownBlock = some k) := by
  rcases hv.2 with ⟨h1, h2⟩ | ⟨g, cap, cur, hvv, hb0, hg, hle, hmx, hcs, htk⟩
  · have hn : L = [] := List.eq_nil_of_length_eq_zero h2
    subst hn h1
    refine (AnyG.slices_Sort_int_none Tryz.sort40 none 0 w).mono ?_
    rintro e w' ⟨rfl, rfl⟩
    exact ⟨rfl, by simpa using OwnI.nil w', Fr.refl _ _⟩
  · subst hvv
    rw [Nat.mul_one] at htk
    refine (AnyG.slices_Sort_int Tryz.sort40 g 0 cap L w (holds_of_blockI hg htk) (Array.getElem?_eq_some_iff.1 hg).1 (by omega)).mono ?_
    rintro e w' ⟨rfl, n, os, rfl⟩
    have hl : (L.mergeSort fun x y => decide (x ≤ y)).length = L.length := by simp
    refine ⟨rfl, ?_, (Fr.grown (grownBy_sortedI _)).mono (fun k _ h => h)⟩
    unfold OwnI
    rw [hl]
    exact ownsRow_sortedI hl hb0 hg hle hmx hcs

end Go.Proofs.YtigkinakhijfoaaGreat
