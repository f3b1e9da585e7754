/- The document's rows of a report. -/
import Derived.Test.YtcmabldfegcdaaaRa
import Derived.Test.YtcmabldfegcdaaaK
namespace Go.Proofs.Ytcmabldfegcdaaa
open Go.RowKit
set_option maxRecDepth 100000
set_option linter.unusedVariables false
set_option linter.unusedSimpArgs false

def OwnC' (w : World) (v : Value) (L : List Stp) : Prop := w.ownsRow 0 67 2 v L.length (encC L)
theorem OwnC'.nil (w : World) : OwnC' w (.slice none 0 0) [] := World.ownsRow_nil w 0 67 2
theorem OwnC'.fr {w w' : World} {X : Nat → Prop} {v : Value} {L : List Stp} (h : OwnC' w v L) (hf : Fr w w' X) (hx : ∀ k, v.ownBlock = some k → ¬ X k) : OwnC' w' v L := ownsRow_fr h hf hx
theorem full67 : ∃ i, Try.prog.info? 67 = some i ∧ i.zero = some (.agg #[.int .i64 0, .int .i64 0]) ∧ i.size = 2 ∧ i.bytes = 16 := by
  have h0 : (Try.prog.info? 67).isSome = true := by kernel_rfl
  have h1 : (Try.prog.info? 67).bind (·.zero) = some (.agg #[.int .i64 0, .int .i64 0]) := by kernel_rfl
  have h2 : (Try.prog.info? 67).map (·.size) = some 2 := by kernel_rfl
  have h3 : (Try.prog.info? 67).map (·.bytes) = some 16 := by kernel_rfl
  obtain ⟨i, hi⟩ := Option.isSome_iff_exists.1 h0
  rw [hi] at h1 h2 h3
  exact ⟨i, hi, h1, Option.some.inj h2, Option.some.inj h3⟩
theorem run_pushC' {w : World} (ty : TypeId) (v : Value) (L : List Stp) (hown : OwnC' w v L) (y : Stp) (hlen : L.length ≤ 4398046511104) :
    ∃ v' w', (Builtin.append_ #[40, 40] ty #[v, .slice (some ⟨w.heap.size, 0, none⟩) 1 1]).run Try.prog (w.alloc (.cells #[.int .i64 y.txn, .int .i64 y.stamp] 67)) = .ok v' w' ∧ OwnC' w' v' (L ++ [y]) ∧ Fr w w' (fun k => v.ownBlock = some k) ∧ Fresh w v v' := by
  obtain ⟨i, hi, hz, hs2, hby⟩ := full67
  have A := Fr.alloc w (.cells #[.int .i64 y.txn, .int .i64 y.stamp] 67) (fun _ => False)
  obtain ⟨v', w', hr, q1, q2, q3⟩ := run_append_gen (P := Try.prog) (w.alloc (.cells #[.int .i64 y.txn, .int .i64 y.stamp] 67)) 40 ty 67 i _ 2 16 Try.underlying40 hi hz hs2 hby rfl (by omega) v L.length (encC L) (ownsRow_fr hown A (by simp)) ⟨w.heap.size, 0, none⟩ 1 1 (encC [y]) (by rw [length_encC]; rfl)
    (fun j u hu => by rw [Addr.add_mid, cell_of_row _ _ _ _ _ _ (heap_alloc_new w _), Nat.zero_add]; simpa [encC, scells] using hu) (by intro u hu; simp [encC, scells] at hu; rcases hu with rfl | rfl <;> rfl) (by unfold maxLen; omega) (by omega)
  refine ⟨v', w', hr, ?_, ?_, ?_⟩
  · unfold OwnC'; rw [List.length_append, encC_append]; exact q1
  · exact (A.trans (Fr.grown q2)).mono (by rintro k _ (h1 | h1); exact h1.elim; exact h1)
  · rcases q3 with h1 | ⟨k, h1, h2⟩
    · exact .inl h1
    · exact .inr ⟨k, h1, by simp at h2; omega⟩
theorem OwnC'.cell {w : World} {a : Option Addr} {c n : Nat} {L : List Stp} (h : OwnC' w (.slice a n c) L) (hn : L.length = n) {i : Nat} {x : Stp} (hi : L[i]? = some x) : ∃ g, a = some ⟨g, 0, none⟩ ∧ w.cell? ⟨g, i * 2, none⟩ = some (.int .i64 x.txn) ∧ w.cell? ⟨g, i * 2 + 1, none⟩ = some (.int .i64 x.stamp) := by
  subst hn
  obtain ⟨g, h1, h2⟩ := row_cell h (i := i * 2 + 0) (by rw [encC_get L i x hi 0 (by omega)]; rfl)
  obtain ⟨g', h3, h4⟩ := row_cell h (i := i * 2 + 1) (by rw [encC_get L i x hi 1 (by omega)]; rfl)
  rw [h1] at h3
  simp only [Option.some.injEq, Addr.mk.injEq, and_true] at h3
  subst h3
  exact ⟨g, h1, h2, h4⟩
def OwnT' (w : World) (v : Value) (L : List Tch) : Prop := w.ownsRow 0 69 3 v L.length (encT L)
theorem OwnT'.nil (w : World) : OwnT' w (.slice none 0 0) [] := World.ownsRow_nil w 0 69 3
theorem OwnT'.fr {w w' : World} {X : Nat → Prop} {v : Value} {L : List Tch} (h : OwnT' w v L) (hf : Fr w w' X) (hx : ∀ k, v.ownBlock = some k → ¬ X k) : OwnT' w' v L := ownsRow_fr h hf hx
theorem full69 : ∃ i, Try.prog.info? 69 = some i ∧ i.zero = some (.agg #[.int .i64 0, .int .i64 0, .int .i64 0]) ∧ i.size = 3 ∧ i.bytes = 24 := by
  have h0 : (Try.prog.info? 69).isSome = true := by kernel_rfl
  have h1 : (Try.prog.info? 69).bind (·.zero) = some (.agg #[.int .i64 0, .int .i64 0, .int .i64 0]) := by kernel_rfl
  have h2 : (Try.prog.info? 69).map (·.size) = some 3 := by kernel_rfl
  have h3 : (Try.prog.info? 69).map (·.bytes) = some 24 := by kernel_rfl
  obtain ⟨i, hi⟩ := Option.isSome_iff_exists.1 h0
  rw [hi] at h1 h2 h3
  exact ⟨i, hi, h1, Option.some.inj h2, Option.some.inj h3⟩
theorem run_pushT' {w : World} (ty : TypeId) (v : Value) (L : List Tch) (hown : OwnT' w v L) (y : Tch) (hlen : L.length ≤ 5864062014804) :
    ∃ v' w', (Builtin.append_ #[41, 41] ty #[v, .slice (some ⟨w.heap.size, 0, none⟩) 1 1]).run Try.prog (w.alloc (.cells #[.int .i64 y.page, .int .i64 y.first, .int .i64 y.last] 69)) = .ok v' w' ∧ OwnT' w' v' (L ++ [y]) ∧ Fr w w' (fun k => v.ownBlock = some k) ∧ Fresh w v v' := by
  obtain ⟨i, hi, hz, hs2, hby⟩ := full69
  have A := Fr.alloc w (.cells #[.int .i64 y.page, .int .i64 y.first, .int .i64 y.last] 69) (fun _ => False)
  obtain ⟨v', w', hr, q1, q2, q3⟩ := run_append_gen (P := Try.prog) (w.alloc (.cells #[.int .i64 y.page, .int .i64 y.first, .int .i64 y.last] 69)) 41 ty 69 i _ 3 24 Try.underlying41 hi hz hs2 hby rfl (by omega) v L.length (encT L) (ownsRow_fr hown A (by simp)) ⟨w.heap.size, 0, none⟩ 1 1 (encT [y]) (by rw [length_encT]; rfl)
    (fun j u hu => by rw [Addr.add_mid, cell_of_row _ _ _ _ _ _ (heap_alloc_new w _), Nat.zero_add]; simpa [encT, tcells] using hu) (by intro u hu; simp [encT, tcells] at hu; rcases hu with rfl | rfl | rfl <;> rfl) (by unfold maxLen; omega) (by omega)
  refine ⟨v', w', hr, ?_, ?_, ?_⟩
  · unfold OwnT'; rw [List.length_append, encT_append]; exact q1
  · exact (A.trans (Fr.grown q2)).mono (by rintro k _ (h1 | h1); exact h1.elim; exact h1)
  · rcases q3 with h1 | ⟨k, h1, h2⟩
    · exact .inl h1
    · exact .inr ⟨k, h1, by simp at h2; omega⟩
theorem OwnT'.cell {w : World} {a : Option Addr} {c n : Nat} {L : List Tch} (h : OwnT' w (.slice a n c) L) (hn : L.length = n) {i : Nat} {x : Tch} (hi : L[i]? = some x) : ∃ g, a = some ⟨g, 0, none⟩ ∧ w.cell? ⟨g, i * 3, none⟩ = some (.int .i64 x.page) ∧ w.cell? ⟨g, i * 3 + 1, none⟩ = some (.int .i64 x.first) ∧ w.cell? ⟨g, i * 3 + 2, none⟩ = some (.int .i64 x.last) := by
  subst hn
  obtain ⟨g, h1, h2⟩ := row_cell h (i := i * 3 + 0) (by rw [encT_get L i x hi 0 (by omega)]; rfl)
  obtain ⟨g', h3, h4⟩ := row_cell h (i := i * 3 + 1) (by rw [encT_get L i x hi 1 (by omega)]; rfl)
  obtain ⟨g'', h5, h6⟩ := row_cell h (i := i * 3 + 2) (by rw [encT_get L i x hi 2 (by omega)]; rfl)
  rw [h1] at h3 h5
  simp only [Option.some.injEq, Addr.mk.injEq, and_true] at h3 h5
  subst h3 h5
  exact ⟨g, h1, h2, h4, h6⟩
/-- Two rising rows with the same members are the same. -/
theorem rising_eq : ∀ {L M : List Int}, L.Pairwise (· < ·) → M.Pairwise (· < ·) → (∀ x, x ∈ L ↔ x ∈ M) → L = M
  | [], [], _, _, _ => rfl
  | [], b :: M, _, _, h => by have := (h b).2 List.mem_cons_self; cases this
  | a :: L, [], _, _, h => by have := (h a).1 List.mem_cons_self; cases this
  | a :: L, b :: M, hl, hm, h => by
    obtain ⟨l1, l2⟩ := List.pairwise_cons.1 hl
    obtain ⟨m1, m2⟩ := List.pairwise_cons.1 hm
    have hab : a = b := by
      rcases List.mem_cons.1 ((h a).1 List.mem_cons_self) with e | e
      · exact e
      · rcases List.mem_cons.1 ((h b).2 List.mem_cons_self) with e' | e'
        · exact e'.symm
        · have := m1 a e; have := l1 b e'; omega
    subst hab
    congr 1
    refine rising_eq l2 m2 (fun x => ⟨fun hx => ?_, fun hx => ?_⟩)
    · rcases List.mem_cons.1 ((h x).1 (List.mem_cons_of_mem _ hx)) with e | e
      · have := l1 x hx; omega
      · exact e
    · rcases List.mem_cons.1 ((h x).2 (List.mem_cons_of_mem _ hx)) with e | e
      · have := m1 x hx; omega
      · exact e
end Go.Proofs.Ytcmabldfegcdaaa
