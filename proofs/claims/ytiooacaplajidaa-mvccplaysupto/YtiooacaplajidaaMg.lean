/- keep: keys were written with a stamp. -/
import Derived.Test.YtiooacaplajidaaMf
import Derived.ArgAppend
namespace Go.Proofs.Ytiooacaplajidaa
open Go.RowKit
set_option maxRecDepth 100000
set_option linter.unusedVariables false
set_option linter.unusedSimpArgs false

theorem full94 : ∃ i, Try.prog.info? 94 = some i ∧ i.zero = some (.agg #[.int .i64 0, .map none]) ∧ i.size = 2 ∧ i.bytes = 16 := by
  have h0 : (Try.prog.info? 94).isSome = true := by kernel_rfl
  have h1 : (Try.prog.info? 94).bind (·.zero) = some (.agg #[.int .i64 0, .map none]) := by kernel_rfl
  have h2 : (Try.prog.info? 94).map (·.size) = some 2 := by kernel_rfl
  have h3 : (Try.prog.info? 94).map (·.bytes) = some 16 := by kernel_rfl
  obtain ⟨i, hi⟩ := Option.isSome_iff_exists.1 h0
  rw [hi] at h1 h2 h3
  exact ⟨i, hi, h1, Option.some.inj h2, Option.some.inj h3⟩
def dcells (d : Dn) : List Value := [.int .i64 d.stamp, .map (some d.kb)]
def encD (L : List Dn) : List Value := (L.map dcells).flatten
theorem length_encD (L : List Dn) : (encD L).length = L.length * 2 := by
  induction L with
  | nil => rfl
  | cons x L ih => simp only [encD, List.map_cons, List.flatten_cons, List.length_append, List.length_cons] at *; simp only [dcells, List.length_cons, List.length_nil]; omega
theorem encD_append (L M : List Dn) : encD (L ++ M) = encD L ++ encD M := by simp [encD]
theorem encD_get (L : List Dn) : ∀ i x, L[i]? = some x → ∀ j, j < 2 → (encD L)[i * 2 + j]? = (dcells x)[j]? := by
  induction L with
  | nil => intro i x h; simp at h
  | cons y L ih =>
    intro i x h j hj
    cases i with
    | zero =>
      simp only [List.getElem?_cons_zero, Option.some.injEq] at h
      subst h
      show (dcells y ++ encD L)[0 * 2 + j]? = _
      rw [List.getElem?_append_left (by simp [dcells]; omega)]
      simp
    | succ i =>
      simp only [List.getElem?_cons_succ] at h
      show (dcells y ++ encD L)[(i + 1) * 2 + j]? = _
      rw [List.getElem?_append_right (by simp [dcells]; omega)]
      rw [show (i + 1) * 2 + j - (dcells y).length = i * 2 + j by simp [dcells]; omega]
      exact ih i x h j hj
theorem done_cells {w : World} {g off : Nat} {L : List Dn} (h : ∀ i d, L[i]? = some d → w.cell? ⟨g, off + i * 2, none⟩ = some (.int .i64 d.stamp) ∧ w.cell? ⟨g, off + i * 2 + 1, none⟩ = some (.map (some d.kb))) : ∀ j u, (encD L)[j]? = some u → w.cell? ((⟨g, off, none⟩ : Addr).add j) = some u := by
  intro j u hu
  rw [Addr.add_mid]
  have hlt := (List.getElem?_eq_some_iff.1 hu).1
  rw [length_encD] at hlt
  obtain ⟨x, hx⟩ : ∃ x, L[j / 2]? = some x := ⟨_, List.getElem?_eq_getElem (by omega)⟩
  have hj : j = j / 2 * 2 + j % 2 := by omega
  have h3 : j % 2 < 2 := Nat.mod_lt _ (by omega)
  rw [hj, encD_get L _ x hx _ h3] at hu
  obtain ⟨c0, c1⟩ := h _ x hx
  generalize j % 2 = r at hu h3 hj
  match r, h3 with
  | 0, _ => simp [dcells] at hu; subst hu; rw [hj, Nat.add_zero]; exact c0
  | 1, _ => simp [dcells] at hu; subst hu; rw [hj, ← Nat.add_assoc]; exact c1
theorem own_done {w : World} {base : Nat} {rl : Nat → Option Role} {v : Value} {L : List Dn} (h : w.ownsRow base 94 2 v L.length (encD L)) (hne : L ≠ []) : ∃ g, base ≤ g ∧ g < w.heap.size ∧ DoneAt w (fun k => if k = g then some .row else rl k) v L := by
  rcases h.2 with ⟨_, h0⟩ | ⟨g, cap, cur, rfl, hb, hg, hn, hm, hcs, htk⟩
  · exact absurd (List.eq_nil_of_length_eq_zero h0) hne
  · have hl : 0 < L.length := List.length_pos_iff.2 hne
    have hlt : g < w.heap.size := (Array.getElem?_eq_some_iff.1 hg).1
    have hcell : ∀ i u, (encD L)[i]? = some u → w.cell? ⟨g, i, none⟩ = some u := by
      intro i u hi
      have hl2 := (List.getElem?_eq_some_iff.1 hi).1
      rw [length_encD] at hl2
      rw [cell_of_row _ _ _ _ _ _ hg]
      rw [← htk, List.getElem?_take_of_lt hl2] at hi
      simpa using hi
    refine ⟨g, hb, hlt, .inr ⟨g, 0, cap, cur, rfl, hn, by omega, hm, by simp, hg, by omega, fun i d hd => ?_⟩⟩
    have e0 := encD_get L i d hd 0 (by omega)
    have e1 := encD_get L i d hd 1 (by omega)
    exact ⟨by rw [Nat.zero_add]; exact hcell (i * 2) _ (by simpa [dcells] using e0), by rw [Nat.zero_add]; exact hcell (i * 2 + 1) _ (by simpa [dcells] using e1)⟩
/-- Behind what is done comes one more. -/
theorem run_done {w : World} {rl : Nat → Option Role} {v : Value} {L : List Dn} (ty : TypeId) (h : DoneAt w rl v L) (d : Dn) (g0 : Nat) (hc0 : w.cell? ⟨g0, 0, none⟩ = some (.int .i64 d.stamp)) (hc1 : w.cell? ⟨g0, 1, none⟩ = some (.map (some d.kb))) (hlen : L.length ≤ 4398046511104) (hrl : ∀ k r, rl k = some r → k < w.heap.size) :
    ∃ v' w' rl', (Builtin.append_ #[41, 41] ty #[v, .slice (some ⟨g0, 0, none⟩) 1 1]).run Try.prog w = .ok v' w' ∧ DoneAt w' rl' v' (L ++ [d]) ∧ Fr w w' (fun k => rl k = some .row) ∧ (∀ k r, rl k = some r → rl' k = some r) ∧ (∀ k r, rl' k = some r → rl k = some r ∨ (r = .row ∧ w.heap.size ≤ k ∧ k < w'.heap.size)) := by
  obtain ⟨i, hi, hz, hs2, hby⟩ := full94
  have hnew : ∀ j u, (encD [d])[j]? = some u → w.cell? ((⟨g0, 0, none⟩ : Addr).add j) = some u := by
    intro j u hu
    rw [Addr.add_mid, Nat.zero_add]
    match j, hu with
    | 0, hu => simp [encD, dcells] at hu; subst hu; exact hc0
    | 1, hu => simp [encD, dcells] at hu; subst hu; exact hc1
    | j + 2, hu => simp [encD, dcells] at hu
  have hone : ∀ u ∈ encD [d], u.oneCell' = true := by
    intro u hu; simp [encD, dcells] at hu; rcases hu with rfl | rfl <;> rfl
  have fin : ∀ (v' : Value) (w' : World), w'.ownsRow w.heap.size 94 2 v' (L ++ [d]).length (encD (L ++ [d])) → w.grownBy w' none → ∃ rl', DoneAt w' rl' v' (L ++ [d]) ∧ Fr w w' (fun k => rl k = some .row) ∧ (∀ k r, rl k = some r → rl' k = some r) ∧ (∀ k r, rl' k = some r → rl k = some r ∨ (r = .row ∧ w.heap.size ≤ k ∧ k < w'.heap.size)) := by
    intro v' w' ho hg
    obtain ⟨g, h1, h2, h3⟩ := own_done (rl := rl) ho (by simp)
    refine ⟨_, h3, (Fr.grown hg).mono (fun k _ h => by cases h), fun k r hk => ?_, fun k r hk => ?_⟩
    · have := hrl k r hk
      rw [if_neg (by omega)]; exact hk
    · split at hk
      · rename_i hkg
        subst hkg
        cases hk
        exact .inr ⟨rfl, h1, h2⟩
      · exact .inl hk
  rcases h with ⟨rfl, a, rfl⟩ | ⟨g, off, cap, cur, rfl, hn, hc, hcm, hr, hg, hsz, hcells⟩
  · cases a with
    | none =>
      obtain ⟨v', w', hrun, q1, q2, _⟩ := run_append_own (P := Try.prog) w w.heap.size 41 ty 94 i _ 2 16 Try.underlying41 hi hz hs2 hby rfl (by omega) _ 0 [] (World.ownsRow_nil w _ 94 2) ⟨g0, 0, none⟩ 1 1 (encD [d]) (by rw [length_encD]; rfl) hnew hone (by unfold maxLen; omega) (by omega) (Nat.le_refl _)
      obtain ⟨rl', r⟩ := fin v' w' q1 q2
      exact ⟨v', w', rl', hrun, r⟩
    | some b =>
      obtain ⟨v', w', hrun, q1, q2⟩ := run_append_arg_grows (P := Try.prog) w 41 ty 94 i _ 2 16 Try.underlying41 hi hz hs2 hby rfl (by omega) b 0 0 [] rfl (fun j u hu => by simp at hu) ⟨g0, 0, none⟩ 1 1 (encD [d]) (by rw [length_encD]; rfl) hnew (by omega) (by unfold maxLen; omega) (by omega)
      obtain ⟨rl', r⟩ := fin v' w' q1 q2
      exact ⟨v', w', rl', hrun, r⟩
  · by_cases hroom : L.length + 1 ≤ cap
    · have hrun := run_append_room_cells (P := Try.prog) w 41 ty 94 i Try.underlying41 hi g off L.length cap ⟨g0, 0, none⟩ 1 1 (encD [d]) (by rw [length_encD, hs2]; rfl) hnew hone hroom
        (fun j hj => by rw [length_encD] at hj; rw [cell_of_row _ _ _ _ _ _ hg, hs2]; simp only [List.length_cons, List.length_nil] at hj; rw [Array.getElem?_eq_getElem (by omega)]; rfl)
        (fun j hj => by unfold World.frozen?; rw [hg]; simp)
      rw [hs2] at hrun
      have hset : w.setCells g (off + L.length * 2) (encD [d]) = (w.setCell ⟨g, off + L.length * 2, none⟩ (.int .i64 d.stamp)).setCell ⟨g, off + L.length * 2 + 1, none⟩ (.map (some d.kb)) := by simp [encD, dcells, World.setCells]
      rw [hset] at hrun
      have F1 := Fr.setCell w ⟨g, off + L.length * 2, none⟩ (.int .i64 d.stamp)
      have F2 := Fr.setCell (w.setCell ⟨g, off + L.length * 2, none⟩ (.int .i64 d.stamp)) ⟨g, off + L.length * 2 + 1, none⟩ (.map (some d.kb))
      have H1 := heap_setCell_here w g (off + L.length * 2) (.int .i64 d.stamp) _ _ _ hg
      have H2 := heap_setCell_here _ g (off + L.length * 2 + 1) (.map (some d.kb)) _ _ _ H1
      refine ⟨_, _, rl, hrun, .inr ⟨g, off, cap, _, by rw [List.length_append]; rfl, by rw [List.length_append]; exact hroom, hc, hcm, hr, H2, by simpa using hsz, fun j e he => ?_⟩, (F1.trans F2).mono (fun k _ h => by rcases h with h | h <;> (have h : k = g := h; subst h; exact hr)), fun k r h => h, fun k r h => .inl h⟩
      rcases Nat.lt_or_ge j L.length with hlt | hge
      · rw [List.getElem?_append_left hlt] at he
        obtain ⟨q1, q2⟩ := hcells j e he
        exact ⟨by rw [World.cell?_setCell_other _ _ _ _ (by intro hh; simp at hh <;> omega), World.cell?_setCell_other _ _ _ _ (by intro hh; simp at hh <;> omega)]; exact q1, by rw [World.cell?_setCell_other _ _ _ _ (by intro hh; simp at hh <;> omega), World.cell?_setCell_other _ _ _ _ (by intro hh; simp at hh <;> omega)]; exact q2⟩
      · rw [List.getElem?_append_right hge] at he
        have hj : j = L.length := by
          rcases Nat.lt_or_ge (j - L.length) 1 with h | h
          · omega
          · rw [List.getElem?_eq_none (by simpa using h)] at he; cases he
        subst hj
        rw [Nat.sub_self] at he
        cases he
        constructor
        · rw [cell_of_row _ _ _ _ _ _ H2]
          rw [Array.getElem?_setIfInBounds_ne (by omega), Array.getElem?_setIfInBounds_self_of_lt (by omega)]
        · rw [cell_of_row _ _ _ _ _ _ H2]
          rw [Array.getElem?_setIfInBounds_self_of_lt (by simp; omega)]
    · obtain ⟨v', w', hrun, q1, q2⟩ := run_append_arg_grows (P := Try.prog) w 41 ty 94 i _ 2 16 Try.underlying41 hi hz hs2 hby rfl (by omega) ⟨g, off, none⟩ L.length cap (encD L) (length_encD L) (done_cells hcells) ⟨g0, 0, none⟩ 1 1 (encD [d]) (by rw [length_encD]; rfl) hnew (by omega) (by unfold maxLen; omega) (by omega)
      obtain ⟨rl', r⟩ := fin v' w' (by rw [List.length_append, encD_append]; exact q1) q2
      exact ⟨v', w', rl', hrun, r⟩
end Go.Proofs.Ytiooacaplajidaa
