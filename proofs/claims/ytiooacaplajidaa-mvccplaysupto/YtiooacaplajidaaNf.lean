/- Lists that grow: snapshots, keys, what is done. -/
import Derived.Test.YtiooacaplajidaaNe
import Derived.Maps.AppendAt
namespace Go.Proofs.Ytiooacaplajidaa
open Go.RowKit Go.Maps
set_option maxRecDepth 100000
set_option linter.unusedVariables false
set_option linter.unusedSimpArgs false

theorem full2 : ∃ i, Try.prog.info? 2 = some i ∧ i.zero = some (.int .i64 0) ∧ i.size = 1 ∧ i.bytes = 8 := by
  have h0 : (Try.prog.info? 2).isSome = true := by kernel_rfl
  have h1 : (Try.prog.info? 2).bind (·.zero) = some (.int .i64 0) := by kernel_rfl
  have h2 : (Try.prog.info? 2).map (·.size) = some 1 := by kernel_rfl
  have h3 : (Try.prog.info? 2).map (·.bytes) = some 8 := by kernel_rfl
  obtain ⟨i, hi⟩ := Option.isSome_iff_exists.1 h0
  rw [hi] at h1 h2 h3
  exact ⟨i, hi, h1, Option.some.inj h2, Option.some.inj h3⟩
theorem full31 : ∃ i, Try.prog.info? 31 = some i ∧ i.zero = some (.slice none 0 0) ∧ i.size = 1 ∧ i.bytes = 24 := by
  have h0 : (Try.prog.info? 31).isSome = true := by kernel_rfl
  have h1 : (Try.prog.info? 31).bind (·.zero) = some (.slice none 0 0) := by kernel_rfl
  have h2 : (Try.prog.info? 31).map (·.size) = some 1 := by kernel_rfl
  have h3 : (Try.prog.info? 31).map (·.bytes) = some 24 := by kernel_rfl
  obtain ⟨i, hi⟩ := Option.isSome_iff_exists.1 h0
  rw [hi] at h1 h2 h3
  exact ⟨i, hi, h1, Option.some.inj h2, Option.some.inj h3⟩
theorem full9 : ∃ i, Try.prog.info? 9 = some i ∧ i.zero = some (.string ⟨#[]⟩) ∧ i.size = 1 ∧ i.bytes = 16 := by
  have h0 : (Try.prog.info? 9).isSome = true := by kernel_rfl
  have h1 : (Try.prog.info? 9).bind (·.zero) = some (.string ⟨#[]⟩) := by kernel_rfl
  have h2 : (Try.prog.info? 9).map (·.size) = some 1 := by kernel_rfl
  have h3 : (Try.prog.info? 9).map (·.bytes) = some 16 := by kernel_rfl
  obtain ⟨i, hi⟩ := Option.isSome_iff_exists.1 h0
  rw [hi] at h1 h2 h3
  exact ⟨i, hi, h1, Option.some.inj h2, Option.some.inj h3⟩
theorem full33 : ∃ i, Try.prog.info? 33 = some i ∧ i.zero = some (.agg #[.int .i64 0, .int .i64 0, .slice none 0 0, .int .i64 0]) ∧ i.size = 4 ∧ i.bytes = 48 := by
  have h0 : (Try.prog.info? 33).isSome = true := by kernel_rfl
  have h1 : (Try.prog.info? 33).bind (·.zero) = some (.agg #[.int .i64 0, .int .i64 0, .slice none 0 0, .int .i64 0]) := by kernel_rfl
  have h2 : (Try.prog.info? 33).map (·.size) = some 4 := by kernel_rfl
  have h3 : (Try.prog.info? 33).map (·.bytes) = some 48 := by kernel_rfl
  obtain ⟨i, hi⟩ := Option.isSome_iff_exists.1 h0
  rw [hi] at h1 h2 h3
  exact ⟨i, hi, h1, Option.some.inj h2, Option.some.inj h3⟩

/-- append to a row of the call's own. -/
theorem app_row {t e : TypeId} {z : Value} {size bytes : Nat} (ht : Try.prog.underlying t = some (.slice e)) (hf : ∃ i, Try.prog.info? e = some i ∧ i.zero = some z ∧ i.size = size ∧ i.bytes = bytes) (hzs : z.cells.size = size) (hs0 : 0 < size) (hb : bytes ≤ 48)
    {w : World} {base : Nat} {v : Value} {n : Nat} {xs : List Value} (hown : w.ownsRow base e size v n xs) (hbase : base ≤ w.heap.size) (ty : TypeId) (a : Addr) (m c : Nat) (news : List Value) (hl : news.length = m * size) (hnews : ∀ j u, news[j]? = some u → w.cell? (a.add j) = some u) (h1 : ∀ u ∈ news, u.oneCell' = true) (hn : n + m ≤ 2199023255552) :
    ∃ v' w', (Builtin.append_ #[t, t] ty #[v, .slice (some a) m c]).run Try.prog w = .ok v' w' ∧ w'.ownsRow base e size v' (n + m) (xs ++ news) ∧ Fr w w' (fun k => v.ownBlock = some k) ∧ (v'.ownBlock = v.ownBlock ∨ v'.ownBlock = some w.heap.size) := by
  obtain ⟨i, hi, hz, hs, hby⟩ := hf
  have hbb : (n + m) * bytes ≤ 140737488355328 := Nat.le_trans (Nat.mul_le_mul hn hb) (by decide)
  obtain ⟨v', w', hrun, q1, q2, _, q3⟩ := run_append_own_at (P := Try.prog) w base t ty e i z size bytes ht hi hz hs hby hzs hs0 v n xs hown a m c news hl hnews h1 (by unfold maxLen; omega) hbb hbase
  exact ⟨v', w', hrun, q1, Fr.grown q2, q3⟩
section
variable {w : World} {base : Nat} {v : Value} {n : Nat} {xs : List Value}
/-- snap = append(snap, s). -/
theorem app_snap (hown : w.ownsRow base 2 1 v n xs) (hbase : base ≤ w.heap.size) (ty : TypeId) (g : Nat) (s : Int) (hc : w.cell? ⟨g, 0, none⟩ = some (.int .i64 s)) (hn : n + 1 ≤ 2199023255552) :
    ∃ v' w', (Builtin.append_ #[46, 46] ty #[v, .slice (some ⟨g, 0, none⟩) 1 1]).run Try.prog w = .ok v' w' ∧ w'.ownsRow base 2 1 v' (n + 1) (xs ++ [.int .i64 s]) ∧ Fr w w' (fun k => v.ownBlock = some k) ∧ (v'.ownBlock = v.ownBlock ∨ v'.ownBlock = some w.heap.size) := by
  refine app_row Try.underlying46 full2 rfl (by omega) (by omega) hown hbase ty ⟨g, 0, none⟩ 1 1 [.int .i64 s] rfl ?_ ?_ hn
  · intro j u hu
    rw [Addr.add_mid, Nat.zero_add]
    match j, hu with
    | 0, hu => simp at hu; subst hu; exact hc
    | j + 1, hu => simp at hu
  · intro u hu; simp at hu; subst hu; rfl
/-- keys = append(keys, nil). -/
theorem app_keys (hown : w.ownsRow base 31 1 v n xs) (hbase : base ≤ w.heap.size) (ty : TypeId) (g : Nat) (hc : w.cell? ⟨g, 0, none⟩ = some (.slice none 0 0)) (hn : n + 1 ≤ 2199023255552) :
    ∃ v' w', (Builtin.append_ #[51, 51] ty #[v, .slice (some ⟨g, 0, none⟩) 1 1]).run Try.prog w = .ok v' w' ∧ w'.ownsRow base 31 1 v' (n + 1) (xs ++ [.slice none 0 0]) ∧ Fr w w' (fun k => v.ownBlock = some k) ∧ (v'.ownBlock = v.ownBlock ∨ v'.ownBlock = some w.heap.size) := by
  refine app_row Try.underlying51 full31 rfl (by omega) (by omega) hown hbase ty ⟨g, 0, none⟩ 1 1 [.slice none 0 0] rfl ?_ ?_ hn
  · intro j u hu
    rw [Addr.add_mid, Nat.zero_add]
    match j, hu with
    | 0, hu => simp at hu; subst hu; exact hc
    | j + 1, hu => simp at hu
  · intro u hu; simp at hu; subst hu; rfl
/-- done = append(done, Op{..}). -/
theorem app_op (hown : w.ownsRow base 33 4 v n xs) (hbase : base ≤ w.heap.size) (ty : TypeId) (g : Nat) (k t q : Int) (ka : Option Addr) (kn kc : Nat) (c0 : w.cell? ⟨g, 0, none⟩ = some (.int .i64 k)) (c1 : w.cell? ⟨g, 1, none⟩ = some (.int .i64 t)) (c2 : w.cell? ⟨g, 2, none⟩ = some (.slice ka kn kc)) (c3 : w.cell? ⟨g, 3, none⟩ = some (.int .i64 q)) (hn : n + 1 ≤ 2199023255552) :
    ∃ v' w', (Builtin.append_ #[22, 22] ty #[v, .slice (some ⟨g, 0, none⟩) 1 1]).run Try.prog w = .ok v' w' ∧ w'.ownsRow base 33 4 v' (n + 1) (xs ++ [.int .i64 k, .int .i64 t, .slice ka kn kc, .int .i64 q]) ∧ Fr w w' (fun k => v.ownBlock = some k) ∧ (v'.ownBlock = v.ownBlock ∨ v'.ownBlock = some w.heap.size) := by
  refine app_row Try.underlying22 full33 rfl (by omega) (by omega) hown hbase ty ⟨g, 0, none⟩ 1 1 [.int .i64 k, .int .i64 t, .slice ka kn kc, .int .i64 q] rfl ?_ ?_ hn
  · intro j u hu
    rw [Addr.add_mid, Nat.zero_add]
    match j, hu with
    | 0, hu => simp at hu; subst hu; exact c0
    | 1, hu => simp at hu; subst hu; exact c1
    | 2, hu => simp at hu; subst hu; exact c2
    | 3, hu => simp at hu; subst hu; exact c3
    | j + 4, hu => simp at hu
  · intro u hu; simp at hu; rcases hu with rfl | rfl | rfl | rfl <;> rfl
/-- keys[t] = append(keys[t], o.Keys...), where o.Keys lies somewhere. -/
theorem app_strs (hown : w.ownsRow base 9 1 v n xs) (hbase : base ≤ w.heap.size) (ty : TypeId) (g off m c : Nat) (K : List ByteArray) (hm : K.length = m) (hc : ∀ j x, K[j]? = some x → w.cell? ⟨g, off + j, none⟩ = some (.string x)) (hn : n + m ≤ 2199023255552) :
    ∃ v' w', (Builtin.append_ #[31, 31] ty #[v, .slice (some ⟨g, off, none⟩) m c]).run Try.prog w = .ok v' w' ∧ w'.ownsRow base 9 1 v' (n + m) (xs ++ K.map Value.string) ∧ Fr w w' (fun k => v.ownBlock = some k) ∧ (v'.ownBlock = v.ownBlock ∨ v'.ownBlock = some w.heap.size) := by
  refine app_row Try.underlying31 full9 rfl (by omega) (by omega) hown hbase ty ⟨g, off, none⟩ m c (K.map Value.string) (by rw [List.length_map]; omega) ?_ ?_ hn
  · intro j u hu
    rw [Addr.add_mid]
    rw [List.getElem?_map] at hu
    cases hx : K[j]? with
    | none => rw [hx] at hu; cases hu
    | some x => rw [hx] at hu; cases hu; exact hc j x hx
  · intro u hu
    obtain ⟨x, _, rfl⟩ := List.mem_map.1 hu
    rfl
end
end Go.Proofs.Ytiooacaplajidaa
