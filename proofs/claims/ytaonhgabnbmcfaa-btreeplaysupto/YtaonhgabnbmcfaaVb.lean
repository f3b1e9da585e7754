/- Appends to the rows of a node. -/
import Derived.Test.YtaonhgabnbmcfaaU
import Derived.Test.YtaonhgabnbmcfaaWa
namespace Go.Proofs.Ytaonhgabnbmcfaa
open Go.RowKit
set_option maxRecDepth 100000
set_option linter.unusedVariables false
set_option linter.unusedSimpArgs false

theorem app_row75 {w : World} {v : Value} {n : Nat} {xs : List Value} (hrow : w.ownsRow 0 75 2 v n xs) {x : Addr} {m c : Nat} {news : List Value} (hl : news.length = m * 2) (hnews : ∀ j u, news[j]? = some u → w.cell? (x.add j) = some u) (h1 : ∀ u ∈ news, u.oneCell' = true) (hn : n + m ≤ 1000) :
    ∃ a' c' w', (Builtin.append_ #[59, 59] 59 #[v, .slice (some x) m c]).run Try.prog w = .ok (.slice a' (n + m) c') w' ∧ w'.ownsRow 0 75 2 (.slice a' (n + m) c') (n + m) (xs ++ news) ∧ Fr w w' (fun k => v.ownBlock = some k) ∧ Fresh w v (.slice a' (n + m) c') := by
  obtain ⟨i, hi, hz, hsz, hby⟩ := full75
  obtain ⟨v', W', hr, q1, q2, q3⟩ := run_append_gen (P := Try.prog) w 59 59 75 i _ 2 24 Try.underlying59 hi hz hsz hby rfl (by omega) v n xs hrow x m c news hl hnews h1 (by unfold maxLen; omega) (by omega)
  obtain ⟨a', c', rfl⟩ := shape_n q1
  exact ⟨a', c', W', hr, q1, Fr.grown q2, q3⟩
theorem app_row58 {w : World} {v : Value} {n : Nat} {xs : List Value} (hrow : w.ownsRow 0 58 1 v n xs) {x : Addr} {m c : Nat} {news : List Value} (hl : news.length = m * 1) (hnews : ∀ j u, news[j]? = some u → w.cell? (x.add j) = some u) (h1 : ∀ u ∈ news, u.oneCell' = true) (hn : n + m ≤ 1000) :
    ∃ a' c' w', (Builtin.append_ #[60, 60] 60 #[v, .slice (some x) m c]).run Try.prog w = .ok (.slice a' (n + m) c') w' ∧ w'.ownsRow 0 58 1 (.slice a' (n + m) c') (n + m) (xs ++ news) ∧ Fr w w' (fun k => v.ownBlock = some k) ∧ Fresh w v (.slice a' (n + m) c') := by
  obtain ⟨i, hi, hz, hsz, hby⟩ := full58
  obtain ⟨v', W', hr, q1, q2, q3⟩ := run_append_gen (P := Try.prog) w 60 60 58 i _ 1 8 Try.underlying60 hi hz hsz hby rfl (by omega) v n xs hrow x m c news hl hnews h1 (by unfold maxLen; omega) (by omega)
  obtain ⟨a', c', rfl⟩ := shape_n q1
  exact ⟨a', c', W', hr, q1, Fr.grown q2, q3⟩
theorem Fresh.trans {w W3 : World} {v v1 v2 : Value} (h1 : Fresh w v v1) (h2 : Fresh W3 v1 v2) (hs : w.heap.size ≤ W3.heap.size) : Fresh w v v2 := by
  rcases h2 with h | ⟨k, h, hk⟩
  · rcases h1 with h3 | ⟨k, h3, hk⟩
    · exact .inl (h.trans h3)
    · exact .inr ⟨k, h.trans h3, hk⟩
  · exact .inr ⟨k, h, by omega⟩
theorem Fresh.up {w W3 : World} {v v1 : Value} (h1 : Fresh W3 v v1) (hs : w.heap.size ≤ W3.heap.size) : Fresh w v v1 := by
  rcases h1 with h3 | ⟨k, h3, hk⟩
  · exact .inl h3
  · exact .inr ⟨k, h3, by omega⟩
theorem Fr.fresh {w W3 W4 : World} {v v1 : Value} (f : Fr w W3 (fun k => v.ownBlock = some k)) (h : Fresh w v v1) (g : Fr W3 W4 (fun k => v1.ownBlock = some k)) : Fr w W4 (fun k => v.ownBlock = some k) := (f.trans g).mono (fun k hk hz => by
  rcases hz with hz | hz
  · exact hz
  · rcases h with h | ⟨q, h, hq⟩
    · rw [h] at hz; exact hz
    · rw [h] at hz; cases hz; omega)
/-- One item more, in a row. -/
theorem app_item {w : World} {v : Value} {n : Nat} {Le : List It} (hrow : w.ownsRow 0 75 2 v n (encI Le)) (mk : ByteArray) (mv : Int) (hn : n ≤ 500) :
    ∃ a' c' w', (Builtin.append_ #[59, 59] 59 #[v, .slice (some ⟨w.heap.size, 0, none⟩) 1 1]).run Try.prog (w.alloc (.cells #[.string mk, .int .i64 mv] 75)) = .ok (.slice a' (n + 1) c') w' ∧ w'.ownsRow 0 75 2 (.slice a' (n + 1) c') (n + 1) (encI (Le ++ [⟨mk, mv⟩])) ∧ Fr w w' (fun k => v.ownBlock = some k) ∧ Fresh w v (.slice a' (n + 1) c') := by
  have FA := Fr.alloc w (.cells #[.string mk, .int .i64 mv] 75) (fun _ => False)
  obtain ⟨a', c', w', hr, q1, q2, q3⟩ := app_row75 (ownsRow_fr hrow FA (fun _ _ h => h)) (x := ⟨w.heap.size, 0, none⟩) (m := 1) (c := 1) (news := [.string mk, .int .i64 mv]) rfl (fun j u hu => by
    rw [Addr.add_mid, cell_of_row _ _ _ _ _ _ (heap_alloc_new w _)]
    simpa using hu) (fun u hu => by simp at hu; rcases hu with rfl | rfl <;> rfl) (by omega)
  exact ⟨a', c', w', hr, by rw [encI_append]; exact q1, (FA.mono (fun _ _ h => h.elim)).two q2, q3.up FA.size⟩
/-- A row of items behind another. -/
theorem app_items {w : World} {v : Value} {n m c gr : Nat} {Le Lr : List It} (hrow : w.ownsRow 0 75 2 v n (encI Le)) (hr : w.ownsRow 0 75 2 (.slice (some ⟨gr, 0, none⟩) m c) m (encI Lr)) (hn : n + m ≤ 1000) :
    ∃ a' c' w', (Builtin.append_ #[59, 59] 59 #[v, .slice (some ⟨gr, 0, none⟩) m c]).run Try.prog w = .ok (.slice a' (n + m) c') w' ∧ w'.ownsRow 0 75 2 (.slice a' (n + m) c') (n + m) (encI (Le ++ Lr)) ∧ Fr w w' (fun k => v.ownBlock = some k) ∧ Fresh w v (.slice a' (n + m) c') := by
  obtain ⟨a', c', w', h, q1, q2, q3⟩ := app_row75 hrow (x := ⟨gr, 0, none⟩) (m := m) (c := c) (news := encI Lr) hr.1 ((row_cells hr).2 _ rfl) (encI_one Lr) hn
  exact ⟨a', c', w', h, by rw [encI_append]; exact q1, q2, q3⟩
/-- A row of kids behind another. -/
theorem app_kids {w : World} {v : Value} {n m c gr : Nat} {gs gt : List Nat} (hrow : w.ownsRow 0 58 1 v n (pts gs)) (hr : w.ownsRow 0 58 1 (.slice (some ⟨gr, 0, none⟩) m c) m (pts gt)) (hn : n + m ≤ 1000) :
    ∃ a' c' w', (Builtin.append_ #[60, 60] 60 #[v, .slice (some ⟨gr, 0, none⟩) m c]).run Try.prog w = .ok (.slice a' (n + m) c') w' ∧ w'.ownsRow 0 58 1 (.slice a' (n + m) c') (n + m) (pts (gs ++ gt)) ∧ Fr w w' (fun k => v.ownBlock = some k) ∧ Fresh w v (.slice a' (n + m) c') := by
  obtain ⟨a', c', w', h, q1, q2, q3⟩ := app_row58 hrow (x := ⟨gr, 0, none⟩) (m := m) (c := c) (news := pts gt) hr.1 ((row_cells hr).2 _ rfl) (pts_one gt) hn
  exact ⟨a', c', w', h, by unfold pts; rw [List.map_append]; exact q1, q2, q3⟩
theorem app_kids_any {w : World} {v u : Value} {n m : Nat} {gs gt : List Nat} (hrow : w.ownsRow 0 58 1 v n (pts gs)) (hr : w.ownsRow 0 58 1 u m (pts gt)) (hn : n + m ≤ 1000) :
    ∃ a' c' w', (Builtin.append_ #[60, 60] 60 #[v, u]).run Try.prog w = .ok (.slice a' (n + m) c') w' ∧ w'.ownsRow 0 58 1 (.slice a' (n + m) c') (n + m) (pts (gs ++ gt)) ∧ Fr w w' (fun k => v.ownBlock = some k) ∧ Fresh w v (.slice a' (n + m) c') := by
  have hr' := hr
  rcases hr.2 with ⟨rfl, rfl⟩ | ⟨g, cap, cur, rfl, _⟩
  · obtain ⟨i, hi, _⟩ := full58
    have hg : gt = [] := List.eq_nil_of_length_eq_zero (by have h := hr.1; rw [pts_length] at h; omega)
    obtain ⟨a, c, rfl⟩ := shape_n hrow
    exact ⟨a, c, w, run_append_owned_none (P := Try.prog) w 0 60 60 58 i 1 Try.underlying60 hi _ n (pts gs) hrow, by rw [hg, List.append_nil]; exact hrow, Fr.refl _ _, .inl rfl⟩
  · exact app_kids hrow hr' hn
def SK2 (dg rg : Nat) (kb kr : Value) (U : World) : Prop := U.cell? ⟨dg, 2, none⟩ = some kb ∧ U.cell? ⟨rg, 2, none⟩ = some kr
end Go.Proofs.Ytaonhgabnbmcfaa
