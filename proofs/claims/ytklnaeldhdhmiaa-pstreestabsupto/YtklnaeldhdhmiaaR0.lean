/- PstreeStabs: two trees, truths. -/
import Derived.Test.YtklnaeldhdhmiaaO
namespace Go.Proofs.Ytklnaeldhdhmiaa
open Go.RowKit Go.Sort
set_option maxRecDepth 100000
set_option linter.unusedVariables false
set_option linter.unusedSimpArgs false

theorem sorted_mem_unique : ∀ {T U : List Pt}, T.Pairwise aheadP → U.Pairwise aheadP → (∀ x, x ∈ T ↔ x ∈ U) → T = U
  | [], [], _, _, _ => rfl
  | [], y :: U, _, _, h => absurd ((h y).2 List.mem_cons_self) (by simp)
  | x :: T, [], _, _, h => absurd ((h x).1 List.mem_cons_self) (by simp)
  | x :: T, y :: U, h1, h2, h => by
    obtain ⟨a1, a2⟩ := List.pairwise_cons.1 h1
    obtain ⟨b1, b2⟩ := List.pairwise_cons.1 h2
    have hxy : x = y := by
      rcases List.mem_cons.1 ((h x).1 List.mem_cons_self) with h' | h'
      · exact h'
      · rcases List.mem_cons.1 ((h y).2 List.mem_cons_self) with h'' | h''
        · exact h''.symm
        · have := a1 y h''
          have := b1 x h'
          unfold aheadP at *
          omega
    subst hxy
    have irr : ¬ aheadP x x := by unfold aheadP; omega
    rw [sorted_mem_unique a2 b2 (fun z => ⟨fun hz => by
      rcases List.mem_cons.1 ((h z).1 (List.mem_cons_of_mem _ hz)) with h' | h'
      · subst h'; exact absurd (a1 z hz) irr
      · exact h', fun hz => by
      rcases List.mem_cons.1 ((h z).2 (List.mem_cons_of_mem _ hz)) with h' | h'
      · subst h'; exact absurd (b1 z hz) irr
      · exact h'⟩)]
/-- The points of the last periods of a list. -/
def ptsR (L : List (Int × Int)) (n : Nat) : Nat → List Pt
  | 0 => []
  | j + 1 => match L[n - 1 - j]? with
    | some x => ⟨x.1, x.2, ((n - 1 - j : Nat) : Int)⟩ :: ptsR L n j
    | none => ptsR L n j
theorem ptsR_succ {L : List (Int × Int)} {n j : Nat} {x : Int × Int} (h : L[n - 1 - j]? = some x) : ptsR L n (j + 1) = ⟨x.1, x.2, ((n - 1 - j : Nat) : Int)⟩ :: ptsR L n j := by
  simp only [ptsR, h]
theorem ptsR_mem {L : List (Int × Int)} {n : Nat} (hn : L.length = n) : ∀ {j : Nat} {q : Pt}, j ≤ n → (q ∈ ptsR L n j ↔ ∃ (i : Nat) (x : Int × Int), n - j ≤ i ∧ i < n ∧ L[i]? = some x ∧ q = ⟨x.1, x.2, i⟩)
  | 0, q, _ => by
    simp only [ptsR, List.not_mem_nil, false_iff]
    rintro ⟨i, x, h1, h2, _⟩
    omega
  | j + 1, q, hj => by
    obtain ⟨x, hx⟩ : ∃ x, L[n - 1 - j]? = some x := ⟨_, List.getElem?_eq_getElem (by omega)⟩
    rw [ptsR_succ hx, List.mem_cons, ptsR_mem hn (by omega)]
    constructor
    · rintro (rfl | ⟨i, y, h1, h2, h3⟩)
      · exact ⟨n - 1 - j, x, by omega, by omega, hx, rfl⟩
      · exact ⟨i, y, by omega, h2, h3⟩
    · rintro ⟨i, y, h1, h2, h3, h4⟩
      rcases Nat.lt_or_ge i (n - j) with h5 | h5
      · have : i = n - 1 - j := by omega
        subst this
        rw [hx] at h3
        cases h3
        exact .inl h4
      · exact .inr ⟨i, y, h5, h2, h3, h4⟩
theorem ptsR_length {L : List (Int × Int)} {n : Nat} (hn : L.length = n) : ∀ {j : Nat}, j ≤ n → (ptsR L n j).length = j
  | 0, _ => rfl
  | j + 1, h => by
    obtain ⟨x, hx⟩ : ∃ x, L[n - 1 - j]? = some x := ⟨_, List.getElem?_eq_getElem (by omega)⟩
    rw [ptsR_succ hx, List.length_cons, ptsR_length hn (by omega)]
/-- Two trees. -/
def T2 (w : World) (bs gt gs : Nat) (P Q : List Pt) (W : World) : Prop :=
  ∃ X Y : Nat → Prop, TR W bs gt P X ∧ TR W bs gs Q Y ∧ (∀ k, X k → ¬ Y k) ∧ (∀ k, X k ∨ Y k → bs ≤ k) ∧ Fr w W (fun k => bs ≤ k) ∧ bs ≤ W.heap.size
theorem T2.fr {w W W' : World} {bs gt gs : Nat} {P Q : List Pt} (h : T2 w bs gt gs P Q W) (hf : Fr W W' (fun _ => False)) : T2 w bs gt gs P Q W' := by
  obtain ⟨X, Y, h1, h2, h3, h4, h5, h6⟩ := h
  exact ⟨X, Y, h1.fr hf (fun _ _ h => h), h2.fr hf (fun _ _ h => h), h3, h4, (h5.trans hf).mono (fun k _ h => by rcases h with h | h; exact h; exact h.elim), Nat.le_trans h6 hf.size⟩
theorem T2.addL {w W : World} {bs gt gs : Nat} {P Q : List Pt} (h : T2 w bs gt gs P Q W) (p : Pt) (hid : In64 p.id) (hnew : ∀ q ∈ P, q.id ≠ p.id) (hsz : P.length + 1 ≤ 1099511627776) : Calls Try.prog 13 #[.pointer (some ⟨gt, 0, none⟩), p.agg] W fun e W' => e = .returned (.int .i64 0) ∧ T2 w bs gt gs (p :: P) Q W' := by
  obtain ⟨X, Y, h1, h2, h3, h4, h5, h6⟩ := h
  refine (addT_any h1 p hid hnew hsz h6).mono ?_
  rintro e W' ⟨rfl, ⟨X', q1, q2⟩, q3⟩
  have hy := h2.lt
  refine ⟨rfl, X', Y, q1, h2.fr q3 (fun k hk h => h3 k h hk), fun k hk hY => ?_, fun k hk => ?_, (h5.trans q3).mono (fun k _ h => by rcases h with h | h; exact h; exact h4 k (.inl h)), Nat.le_trans h6 q3.size⟩
  · rcases q2 k hk with h | h
    · exact h3 k h hY
    · have := hy k hY; omega
  · rcases hk with hk | hk
    · rcases q2 k hk with h | h
      · exact h4 k (.inl h)
      · omega
    · exact h4 k (.inr hk)
theorem T2.swap {w W : World} {bs gt gs : Nat} {P Q : List Pt} (h : T2 w bs gt gs P Q W) : T2 w bs gs gt Q P W := by
  obtain ⟨X, Y, h1, h2, h3, h4, h5, h6⟩ := h
  exact ⟨Y, X, h2, h1, fun k hy hx => h3 k hx hy, fun k hk => h4 k hk.symm, h5, h6⟩
theorem T2.find {w W : World} {bs gt gs : Nat} {P Q : List Pt} (h : T2 w bs gt gs P Q W) (hsz : P.length ≤ 1099511627776) (lo hi le : Int) : Calls Try.prog 12 #[.pointer (some ⟨gt, 0, none⟩), .int .i64 lo, .int .i64 hi, .int .i64 le] W fun e W' => FindPost W P lo hi le e W' := by
  obtain ⟨X, Y, h1, _⟩ := h
  exact findT_any h1 hsz lo hi le
theorem full4 : ∃ i, Try.prog.info? 4 = some i ∧ i.zero = some (.bool false) ∧ i.size = 1 ∧ i.bytes = 1 := by
  have h0 : (Try.prog.info? 4).isSome = true := by kernel_rfl
  have h1 : (Try.prog.info? 4).bind (·.zero) = some (.bool false) := by kernel_rfl
  have h2 : (Try.prog.info? 4).map (·.size) = some 1 := by kernel_rfl
  have h3 : (Try.prog.info? 4).map (·.bytes) = some 1 := by kernel_rfl
  obtain ⟨i, hi⟩ := Option.isSome_iff_exists.1 h0
  rw [hi] at h1 h2 h3
  exact ⟨i, hi, h1, Option.some.inj h2, Option.some.inj h3⟩
/-- A row of truths: what each is. -/
def Bools (w : World) (g n : Nat) (f : Nat → Bool) : Prop := g < w.heap.size ∧ (∀ k, w.frozen? ⟨g, k, none⟩ = false) ∧ ∀ i, i < n → w.cell? ⟨g, i, none⟩ = some (.bool (f i))
theorem Bools.fr {w w' : World} {X : Nat → Prop} {g n : Nat} {f : Nat → Bool} (h : Bools w g n f) (hf : Fr w w' X) (hx : ¬ X g) : Bools w' g n f :=
  ⟨Nat.lt_of_lt_of_le h.1 hf.size, fun k => by rw [frozen_eq_fr hf h.1 hx]; exact h.2.1 k, fun i hi => hf.cell' hx (h.2.2 i hi)⟩
theorem Bools.set {w : World} {g n : Nat} {f : Nat → Bool} (h : Bools w g n f) (i : Nat) (hi : i < n) : Bools (w.setCell ⟨g, i, none⟩ (.bool true)) g n (fun j => if j = i then true else f j) := by
  refine ⟨by simpa [World.setCell] using h.1, fun k => by have := World.frozen?_setCells g [.bool true] i w ⟨g, k, none⟩; simp only [World.setCells] at this; rw [this]; exact h.2.1 k, fun j hj => ?_⟩
  by_cases hji : j = i
  · subst hji
    show _ = some (Value.bool (if j = j then true else f j))
    rw [if_pos rfl]
    exact World.cell?_setCell_same _ _ _ (h.2.2 j hj)
  · show _ = some (Value.bool (if j = i then true else f j))
    rw [if_neg hji]
    have := World.cell?_setCells_out g [.bool true] i w ⟨g, j, none⟩ (fun _ _ => by show j < i ∨ i + 1 ≤ j; omega)
    simp only [World.setCells] at this
    rw [this]
    exact h.2.2 j hj
theorem frozen4 {W : World} {g : Nat} {c : Array Value} (h : W.heap[g]? = some (.cells c 4 (0, 0))) (k : Nat) : W.frozen? ⟨g, k, none⟩ = false := by simp [World.frozen?, h]
theorem bools_new (w : World) (n : Nat) : Bools (w.alloc (.cells (madeCells (Value.bool false).cells n) 4)) w.heap.size n (fun _ => false) := by
  have hb := heap_alloc_new w (.cells (madeCells (Value.bool false).cells n) 4)
  refine ⟨(Array.getElem?_eq_some_iff.1 hb).1, fun k => frozen4 hb k, fun i hi => ?_⟩
  rw [cell_of_row _ _ _ _ _ _ hb]
  simp [madeCells, Value.cells, hi, Nat.mod_one]
theorem make43 (V : World) (n : Nat) (hn : n ≤ 1048576) : (Instr.makeSlice 43 (.int .i64 (n : Int)) (.int .i64 (n : Int))).run Try.prog V = .ok (.slice (some ⟨V.heap.size, 0, none⟩) n n) (V.alloc (.cells (madeCells (Value.bool false).cells n) 4)) := by
  obtain ⟨i, hi, hz, hs, hb⟩ := full4
  have := run_make (P := Try.prog) V 43 4 i _ Try.underlying43 hi hz .i64 .i64 n n (by omega) (by omega) (by rw [hb]; omega) (by omega)
  rw [hs] at this
  simpa using this
end Go.Proofs.Ytklnaeldhdhmiaa
