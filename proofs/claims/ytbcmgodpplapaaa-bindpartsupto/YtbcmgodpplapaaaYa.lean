/- What the region of the seven pairs is made of. -/
import Derived.Test.YtbcmgodpplapaaaY
namespace Go.Proofs.Ytbcmgodpplapaaa
open Go.RowKit
set_option maxRecDepth 100000
set_option linter.unusedVariables false
set_option linter.unusedSimpArgs false

/-- What a place of the region holds: an expression, a pair, a row of parts, the row of pairs. -/
inductive Mn where
  | ex (e : Ex)
  | pair (e f : Ex)
  | args (l : List Ex)
  | rows (l : List (Ex × Ex))
/-- A pair in a row of pairs. -/
def PairAt (w : World) (g k : Nat) (e f : Ex) : Prop := ∃ x0 x1 x2 x3 x4 y0 y1 y2 y3 y4 : Value, w.cell? ⟨g, k * 10, none⟩ = some x0 ∧ w.cell? ⟨g, k * 10 + 1, none⟩ = some x1 ∧ w.cell? ⟨g, k * 10 + 2, none⟩ = some x2 ∧ w.cell? ⟨g, k * 10 + 3, none⟩ = some x3 ∧ w.cell? ⟨g, k * 10 + 4, none⟩ = some x4 ∧ w.cell? ⟨g, k * 10 + 5, none⟩ = some y0 ∧ w.cell? ⟨g, k * 10 + 6, none⟩ = some y1 ∧ w.cell? ⟨g, k * 10 + 7, none⟩ = some y2 ∧ w.cell? ⟨g, k * 10 + 8, none⟩ = some y3 ∧ w.cell? ⟨g, k * 10 + 9, none⟩ = some y4 ∧ ExAt w e (.agg #[x0, x1, x2, x3, x4]) ∧ ExAt w f (.agg #[y0, y1, y2, y3, y4])
def PairsAt (w : World) (g : Nat) (l : List (Ex × Ex)) : Prop := ∀ (k : Nat) (e f : Ex), l[k]? = some (e, f) → PairAt w g k e f
def Mean (w : World) : Mn → Value → Prop
  | .ex e, v => ExAt w e v
  | .pair e f, v => ∃ x0 x1 x2 x3 x4 y0 y1 y2 y3 y4 : Value, v = .agg #[x0, x1, x2, x3, x4, y0, y1, y2, y3, y4] ∧ ExAt w e (.agg #[x0, x1, x2, x3, x4]) ∧ ExAt w f (.agg #[y0, y1, y2, y3, y4])
  | .args l, v => ∃ (a : Option Addr) (c : Nat), v = .slice a l.length c ∧ l.length ≤ 1048576 ∧ ExsAt w l a 0
  | .rows l, v => ∃ (g : Nat), v = .slice (some ⟨g, 0, none⟩) l.length l.length ∧ PairsAt w g l
theorem PairAt.fr {w w' : World} (hf : Fr w w' (fun _ => False)) {g k : Nat} {e f : Ex} (h : PairAt w g k e f) : PairAt w' g k e f := by
  obtain ⟨x0, x1, x2, x3, x4, y0, y1, y2, y3, y4, c0, c1, c2, c3, c4, c5, c6, c7, c8, c9, hx, hy⟩ := h
  have hb := hf.block g (World.block_lt_of_cell? w _ c0) (fun h => h)
  have eq : ∀ o, w'.cell? ⟨g, o, none⟩ = w.cell? ⟨g, o, none⟩ := fun o => World.cell?_of_block (w := w) hb
  exact ⟨x0, x1, x2, x3, x4, y0, y1, y2, y3, y4, by rw [eq]; exact c0, by rw [eq]; exact c1, by rw [eq]; exact c2, by rw [eq]; exact c3, by rw [eq]; exact c4, by rw [eq]; exact c5, by rw [eq]; exact c6, by rw [eq]; exact c7, by rw [eq]; exact c8, by rw [eq]; exact c9, ExAt.fr hf _ _ hx, ExAt.fr hf _ _ hy⟩
theorem PairsAt.fr {w w' : World} (hf : Fr w w' (fun _ => False)) {g : Nat} {l : List (Ex × Ex)} (h : PairsAt w g l) : PairsAt w' g l := fun k e f hk => (h k e f hk).fr hf
theorem Mean.fr {w w' : World} (hf : Fr w w' (fun _ => False)) : ∀ (m : Mn) (v : Value), Mean w m v → Mean w' m v
  | .ex e, v, h => ExAt.fr hf e v h
  | .pair e f, v, h => by
    obtain ⟨x0, x1, x2, x3, x4, y0, y1, y2, y3, y4, h1, hx, hy⟩ := h
    exact ⟨x0, x1, x2, x3, x4, y0, y1, y2, y3, y4, h1, ExAt.fr hf _ _ hx, ExAt.fr hf _ _ hy⟩
  | .args l, v, h => by
    obtain ⟨a, c, h1, h2, h3⟩ := h
    exact ⟨a, c, h1, h2, ExsAt.fr hf l a 0 h3⟩
  | .rows l, v, h => by
    obtain ⟨g, h1, h2⟩ := h
    exact ⟨g, h1, h2.fr hf⟩
section
variable {o : Oper} {a : Act} {w : World} {K : Act → World → Prop} {Q : Exit → Act → World → Prop}
theorem getD' {t : Array Value} {x : Nat} {v : Value} (h : t.getD x undef = v) : t[x]?.getD undef = v := by simpa using h
theorem eval_tmp (a : Act) (t : Nat) : a.eval (.tmp t) = a.tmps.getD t undef := rfl
theorem op_load (t g : Nat) {x0 x1 x2 x3 x4 : Value} (ho : o.op = .load 42 (.tmp t)) (ht : a.tmps.getD t undef = .pointer (some ⟨g, 0, none⟩)) (hq : Qui w g x0 x1 x2 x3 x4) (hK : K (a.put o.dst (.agg #[x0, x1, x2, x3, x4])) w) : o.wp Try.prog a w K Q := by
  have h : (execOp a.eval o).run Try.prog w = .ok (.value (.agg #[x0, x1, x2, x3, x4])) w := by
    have e1 := run_loadVar_mid (P := Try.prog) w g 0 42 [x0, x1, x2, x3, x4] _ hq.range Try.underlying42 rfl info42
    have e2 : a.eval (.tmp t) = .pointer (some ⟨g, 0, none⟩) := by rw [eval_tmp]; exact ht
    simp [execOp, ho, e2, Instr.loadAt, Instr.sureAddr, asAddr, e1]
  unfold Oper.wp
  rw [h]
  exact hK
theorem op_assign (t : Nat) {v : Value} (ho : o.op = .assign (.tmp t)) (ht : a.tmps.getD t undef = v) (hK : K (a.put o.dst v) w) : o.wp Try.prog a w K Q := by
  have e2 : a.eval (.tmp t) = v := by rw [eval_tmp]; exact ht
  have h : (execOp a.eval o).run Try.prog w = .ok (.value v) w := by simp [execOp, ho, e2]
  unfold Oper.wp
  rw [h]
  exact hK
theorem op_not (x : Nat) (e : Ex) {v : Value} (ho : o.op = .call { callee := .value (.func 21), args := #[.tmp x], argTypes := #[42] }) (ht : a.tmps.getD x undef = v) (he : ExAt w e v)
    (hK : ∀ u w', ExAt w' (opE ⟨#[78, 79, 84]⟩ [e]) u → Fr w w' (fun _ => False) → K (a.put o.dst u) w') : o.wp Try.prog a w K Q := by
  have e2 : a.eval (.tmp x) = v := by rw [eval_tmp]; exact ht
  refine wp_call_to o.dst rfl 21 #[v] ?_ (not_any e v he) ?_
  · simpa [execOp, ho, go_sem] using ht
  · rintro q w' ⟨⟨u, rfl, hu⟩, hf⟩
    exact ⟨u, rfl, hK u w' hu hf⟩
theorem op_two (s : ByteArray) (x y : Nat) (e f : Ex) {v u : Value} (ho : o.op = .call { callee := .value (.func 22), args := #[.const (.string s), .tmp x, .tmp y], argTypes := #[9, 42, 42] }) (ht : a.tmps.getD x undef = v) (hs : a.tmps.getD y undef = u) (he : ExAt w e v) (hf : ExAt w f u)
    (hK : ∀ u w', ExAt w' (opE s [e, f]) u → Fr w w' (fun _ => False) → K (a.put o.dst u) w') : o.wp Try.prog a w K Q := by
  have ht' : a.tmps[x]?.getD undef = v := by simpa using ht
  have hs' : a.tmps[y]?.getD undef = u := by simpa using hs
  refine wp_call_to o.dst rfl 22 #[.string s, v, u] ?_ (two_any s e f v u he hf) ?_
  · simp [execOp, ho, go_sem, ht', hs']
  · rintro q w' ⟨⟨u, rfl, hu⟩, hf⟩
    exact ⟨u, rfl, hK u w' hu hf⟩
theorem op_pair (x y : Nat) (e f : Ex) {v u : Value} (ho : o.op = .build 69 #[(0, .tmp x), (1, .tmp y)]) (ht : a.tmps.getD x undef = v) (hs : a.tmps.getD y undef = u) (he : ExAt w e v) (hf : ExAt w f u)
    (hK : ∀ u, Mean w (.pair e f) u → K (a.put o.dst u) w) : o.wp Try.prog a w K Q := by
  obtain ⟨op, num, text, of_, args⟩ := e
  obtain ⟨op', num', text', of', args'⟩ := f
  have hE2 := he
  have hE3 := hf
  unfold ExAt at hE2 hE3
  obtain ⟨b, c, rfl, _, _⟩ := hE2
  obtain ⟨b', c', rfl, _, _⟩ := hE3
  have ht' := getD' ht
  have hs' := getD' hs
  have h : (execOp a.eval o).run Try.prog w = .ok (.value (.agg #[.string op, .int .i64 num, .string text, .string of_, .slice b args.length c, .string op', .int .i64 num', .string text', .string of', .slice b' args'.length c'])) w := by
    simp only [execOp, ho]
    simp [go_sem, ht', hs']
  unfold Oper.wp
  rw [h]
  exact hK _ ⟨_, _, _, _, _, _, _, _, _, _, rfl, he, hf⟩
theorem op_args (x : Nat) (e : Ex) {v : Value} (ho : o.op = .buildSlice 40 1 #[(0, .tmp x)]) (ht : a.tmps.getD x undef = v) (he : ExAt w e v)
    (hK : ∀ u w', Mean w' (.args [e]) u → Fr w w' (fun _ => False) → K (a.put o.dst u) w') : o.wp Try.prog a w K Q := by
  obtain ⟨op, num, text, of_, args⟩ := e
  have hE2 := he
  unfold ExAt at hE2
  obtain ⟨b, c, rfl, _, _⟩ := hE2
  have ht' := getD' ht
  have h : (execOp a.eval o).run Try.prog w = .ok (.value (.slice (some ⟨w.heap.size, 0, none⟩) 1 1)) (w.alloc (.cells #[.string op, .int .i64 num, .string text, .string of_, .slice b args.length c] 42)) := by
    simp only [execOp, ho]
    simp [go_sem, ht']
  unfold Oper.wp
  rw [h]
  refine hK _ _ ⟨some ⟨w.heap.size, 0, none⟩, 1, rfl, by simp, ?_⟩ (Fr.alloc _ _ _)
  exact exs_one (heap_alloc_new _ _) (ExAt.fr (Fr.alloc _ _ _) _ _ he)
theorem op_neg (s : ByteArray) (x : Nat) (l : List Ex) {v : Value} (ho : o.op = .build 42 #[(0, .const (.string s)), (4, .tmp x)]) (ht : a.tmps.getD x undef = v) (he : Mean w (.args l) v)
    (hK : ∀ u, Mean w (.ex (opE s l)) u → K (a.put o.dst u) w) : o.wp Try.prog a w K Q := by
  obtain ⟨b, c, rfl, h1, h2⟩ := he
  have ht' := getD' ht
  have h : (execOp a.eval o).run Try.prog w = .ok (.value (.agg #[.string s, .int .i64 0, .string ⟨#[]⟩, .string ⟨#[]⟩, .slice b l.length c])) w := by
    simp only [execOp, ho]
    simp [go_sem, ht']
  unfold Oper.wp
  rw [h]
  refine hK _ ?_
  unfold Mean ExAt
  exact ⟨b, c, rfl, h1, h2⟩
set_option maxHeartbeats 4000000 in
theorem op_rows (t0 t1 t2 t3 t4 t5 t6 : Nat) (e0 f0 e1 f1 e2 f2 e3 f3 e4 f4 e5 f5 e6 f6 : Ex) {v0 v1 v2 v3 v4 v5 v6 : Value} (ho : o.op = .buildSlice 70 7 #[(0, .tmp t0), (1, .tmp t1), (2, .tmp t2), (3, .tmp t3), (4, .tmp t4), (5, .tmp t5), (6, .tmp t6)]) (ht0 : a.tmps.getD t0 undef = v0) (ht1 : a.tmps.getD t1 undef = v1) (ht2 : a.tmps.getD t2 undef = v2) (ht3 : a.tmps.getD t3 undef = v3) (ht4 : a.tmps.getD t4 undef = v4) (ht5 : a.tmps.getD t5 undef = v5) (ht6 : a.tmps.getD t6 undef = v6) (hm0 : Mean w (.pair e0 f0) v0) (hm1 : Mean w (.pair e1 f1) v1) (hm2 : Mean w (.pair e2 f2) v2) (hm3 : Mean w (.pair e3 f3) v3) (hm4 : Mean w (.pair e4 f4) v4) (hm5 : Mean w (.pair e5 f5) v5) (hm6 : Mean w (.pair e6 f6) v6)
    (hK : ∀ u w', Mean w' (.rows [(e0, f0), (e1, f1), (e2, f2), (e3, f3), (e4, f4), (e5, f5), (e6, f6)]) u → Fr w w' (fun _ => False) → K (a.put o.dst u) w') : o.wp Try.prog a w K Q := by
  obtain ⟨x00, x01, x02, x03, x04, y00, y01, y02, y03, y04, rfl, hx0, hy0⟩ := hm0
  have ht0' := getD' ht0
  clear ht0
  obtain ⟨x10, x11, x12, x13, x14, y10, y11, y12, y13, y14, rfl, hx1, hy1⟩ := hm1
  have ht1' := getD' ht1
  clear ht1
  obtain ⟨x20, x21, x22, x23, x24, y20, y21, y22, y23, y24, rfl, hx2, hy2⟩ := hm2
  have ht2' := getD' ht2
  clear ht2
  obtain ⟨x30, x31, x32, x33, x34, y30, y31, y32, y33, y34, rfl, hx3, hy3⟩ := hm3
  have ht3' := getD' ht3
  clear ht3
  obtain ⟨x40, x41, x42, x43, x44, y40, y41, y42, y43, y44, rfl, hx4, hy4⟩ := hm4
  have ht4' := getD' ht4
  clear ht4
  obtain ⟨x50, x51, x52, x53, x54, y50, y51, y52, y53, y54, rfl, hx5, hy5⟩ := hm5
  have ht5' := getD' ht5
  clear ht5
  obtain ⟨x60, x61, x62, x63, x64, y60, y61, y62, y63, y64, rfl, hx6, hy6⟩ := hm6
  have ht6' := getD' ht6
  clear ht6
  obtain ⟨ob, hob⟩ : ∃ ob : Obj, ob = .cells #[x00, x01, x02, x03, x04, y00, y01, y02, y03, y04, x10, x11, x12, x13, x14, y10, y11, y12, y13, y14, x20, x21, x22, x23, x24, y20, y21, y22, y23, y24, x30, x31, x32, x33, x34, y30, y31, y32, y33, y34, x40, x41, x42, x43, x44, y40, y41, y42, y43, y44, x50, x51, x52, x53, x54, y50, y51, y52, y53, y54, x60, x61, x62, x63, x64, y60, y61, y62, y63, y64] 69 := ⟨_, rfl⟩
  have h : (execOp a.eval o).run Try.prog w = .ok (.value (.slice (some ⟨w.heap.size, 0, none⟩) 7 7)) (w.alloc ob) := by
    simp only [execOp, ho, hob]
    simp [go_sem, ht0', ht1', ht2', ht3', ht4', ht5', ht6']
  unfold Oper.wp
  rw [h]
  have hh : (w.alloc ob).heap[w.heap.size]? = some (.cells #[x00, x01, x02, x03, x04, y00, y01, y02, y03, y04, x10, x11, x12, x13, x14, y10, y11, y12, y13, y14, x20, x21, x22, x23, x24, y20, y21, y22, y23, y24, x30, x31, x32, x33, x34, y30, y31, y32, y33, y34, x40, x41, x42, x43, x44, y40, y41, y42, y43, y44, x50, x51, x52, x53, x54, y50, y51, y52, y53, y54, x60, x61, x62, x63, x64, y60, y61, y62, y63, y64] 69 (0, 0)) := by rw [hob]; exact heap_alloc_new _ _
  have F := Fr.alloc w ob (fun _ => False)
  have e : ∀ j, (w.alloc ob).cell? ⟨w.heap.size, j, none⟩ = #[x00, x01, x02, x03, x04, y00, y01, y02, y03, y04, x10, x11, x12, x13, x14, y10, y11, y12, y13, y14, x20, x21, x22, x23, x24, y20, y21, y22, y23, y24, x30, x31, x32, x33, x34, y30, y31, y32, y33, y34, x40, x41, x42, x43, x44, y40, y41, y42, y43, y44, x50, x51, x52, x53, x54, y50, y51, y52, y53, y54, x60, x61, x62, x63, x64, y60, y61, y62, y63, y64][j]? := fun j => by rw [cell_of_row _ _ _ _ _ _ hh]
  refine hK _ _ ⟨w.heap.size, rfl, ?_⟩ F
  intro k e' f' hk
  match k, hk with
  | 0, hk => simp only [List.getElem?_cons_succ, List.getElem?_cons_zero, Option.some.injEq, Prod.mk.injEq] at hk; obtain ⟨rfl, rfl⟩ := hk; exact ⟨x00, x01, x02, x03, x04, y00, y01, y02, y03, y04, e 0, e 1, e 2, e 3, e 4, e 5, e 6, e 7, e 8, e 9, ExAt.fr F _ _ hx0, ExAt.fr F _ _ hy0⟩
  | 1, hk => simp only [List.getElem?_cons_succ, List.getElem?_cons_zero, Option.some.injEq, Prod.mk.injEq] at hk; obtain ⟨rfl, rfl⟩ := hk; exact ⟨x10, x11, x12, x13, x14, y10, y11, y12, y13, y14, e 10, e 11, e 12, e 13, e 14, e 15, e 16, e 17, e 18, e 19, ExAt.fr F _ _ hx1, ExAt.fr F _ _ hy1⟩
  | 2, hk => simp only [List.getElem?_cons_succ, List.getElem?_cons_zero, Option.some.injEq, Prod.mk.injEq] at hk; obtain ⟨rfl, rfl⟩ := hk; exact ⟨x20, x21, x22, x23, x24, y20, y21, y22, y23, y24, e 20, e 21, e 22, e 23, e 24, e 25, e 26, e 27, e 28, e 29, ExAt.fr F _ _ hx2, ExAt.fr F _ _ hy2⟩
  | 3, hk => simp only [List.getElem?_cons_succ, List.getElem?_cons_zero, Option.some.injEq, Prod.mk.injEq] at hk; obtain ⟨rfl, rfl⟩ := hk; exact ⟨x30, x31, x32, x33, x34, y30, y31, y32, y33, y34, e 30, e 31, e 32, e 33, e 34, e 35, e 36, e 37, e 38, e 39, ExAt.fr F _ _ hx3, ExAt.fr F _ _ hy3⟩
  | 4, hk => simp only [List.getElem?_cons_succ, List.getElem?_cons_zero, Option.some.injEq, Prod.mk.injEq] at hk; obtain ⟨rfl, rfl⟩ := hk; exact ⟨x40, x41, x42, x43, x44, y40, y41, y42, y43, y44, e 40, e 41, e 42, e 43, e 44, e 45, e 46, e 47, e 48, e 49, ExAt.fr F _ _ hx4, ExAt.fr F _ _ hy4⟩
  | 5, hk => simp only [List.getElem?_cons_succ, List.getElem?_cons_zero, Option.some.injEq, Prod.mk.injEq] at hk; obtain ⟨rfl, rfl⟩ := hk; exact ⟨x50, x51, x52, x53, x54, y50, y51, y52, y53, y54, e 50, e 51, e 52, e 53, e 54, e 55, e 56, e 57, e 58, e 59, ExAt.fr F _ _ hx5, ExAt.fr F _ _ hy5⟩
  | 6, hk => simp only [List.getElem?_cons_succ, List.getElem?_cons_zero, Option.some.injEq, Prod.mk.injEq] at hk; obtain ⟨rfl, rfl⟩ := hk; exact ⟨x60, x61, x62, x63, x64, y60, y61, y62, y63, y64, e 60, e 61, e 62, e 63, e 64, e 65, e 66, e 67, e 68, e 69, ExAt.fr F _ _ hx6, ExAt.fr F _ _ hy6⟩
  | k + 7, hk => simp at hk
end
end Go.Proofs.Ytbcmgodpplapaaa
