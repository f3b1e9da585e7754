/- A table in memory of its own: Clone, own. -/
import Derived.Test.YtdeopneififnnaaL
namespace Go.Proofs.Ytdeopneififnnaa
open Go.RowKit
set_option maxRecDepth 100000
set_option linter.unusedVariables false
set_option linter.unusedSimpArgs false

theorem full37 : ∃ i, Try.prog.info? 37 = some i ∧ i.zero = some (.agg #[.string ⟨#[]⟩, .int .i64 0]) ∧ i.size = 2 ∧ i.bytes = 24 := by
  have h0 : (Try.prog.info? 37).isSome = true := by kernel_rfl
  have h1 : (Try.prog.info? 37).bind (·.zero) = some (.agg #[.string ⟨#[]⟩, .int .i64 0]) := by kernel_rfl
  have h2 : (Try.prog.info? 37).map (·.size) = some 2 := by kernel_rfl
  have h3 : (Try.prog.info? 37).map (·.bytes) = some 24 := by kernel_rfl
  obtain ⟨i, hi⟩ := Option.isSome_iff_exists.1 h0
  rw [hi] at h1 h2 h3
  exact ⟨i, hi, h1, Option.some.inj h2, Option.some.inj h3⟩
/-- Columns as cells. -/
def encC (C : List Cn) : List Value := C.flatMap (fun c => [.string c.name, .int .i64 c.kind])
theorem encC_length (C : List Cn) : (encC C).length = C.length * 2 := by
  induction C with
  | nil => rfl
  | cons c C ih =>
    have e : encC (c :: C) = [.string c.name, .int .i64 c.kind] ++ encC C := rfl
    rw [e, List.length_append, ih, List.length_cons, List.length_cons, List.length_cons, List.length_nil]; omega
theorem encC_one (C : List Cn) : ∀ u ∈ encC C, u.oneCell' = true := by
  intro u hu
  obtain ⟨c, _, hc⟩ := List.mem_flatMap.1 hu
  simp at hc
  rcases hc with rfl | rfl <;> rfl
theorem encC_get (C : List Cn) : ∀ (i : Nat) (x : Cn), C[i]? = some x → (encC C)[i * 2]? = some (.string x.name) ∧ (encC C)[i * 2 + 1]? = some (.int .i64 x.kind) := by
  induction C with
  | nil => intro i x h; simp at h
  | cons c C ih =>
    intro i x h
    cases i with
    | zero => simp at h; subst h; exact ⟨rfl, rfl⟩
    | succ i =>
      have := ih i x (by simpa using h)
      have e : encC (c :: C) = .string c.name :: .int .i64 c.kind :: encC C := rfl
      rw [e, show (i + 1) * 2 = i * 2 + 1 + 1 by omega]
      simpa using this
theorem encC_cells {P : Nat → Prop} {w : World} {g off : Nat} {C : List Cn} (h : ColsIn P w (some ⟨g, off, none⟩) C) : ∀ j u, (encC C)[j]? = some u → w.cell? ((⟨g, off, none⟩ : Addr).add j) = some u := by
  intro j u hu
  have hl := (List.getElem?_eq_some_iff.1 hu).1
  rw [encC_length] at hl
  obtain ⟨x, hx⟩ : ∃ x, C[j / 2]? = some x := ⟨_, List.getElem?_eq_getElem (by omega)⟩
  obtain ⟨h1, h2⟩ := encC_get C _ _ hx
  obtain ⟨g', off', e, _, c1, c2⟩ := h _ _ hx
  cases e
  rw [Addr.add_mid]
  rcases Nat.mod_two_eq_zero_or_one j with hm | hm
  · rw [show j / 2 * 2 = j by omega] at h1 c1
    rw [h1] at hu; cases hu; exact c1
  · rw [show j / 2 * 2 + 1 = j by omega] at h2
    rw [show off + j / 2 * 2 + 1 = off + j by omega] at c2
    rw [h2] at hu; cases hu; exact c2
/-- A slice's value: nil, or in a block of P. -/
def Sh (P : Nat → Prop) (w : World) (a : Option Addr) (n c : Nat) : Prop := (n = 0 ∧ c = 0) ∨ ∃ g off, a = some ⟨g, off, none⟩ ∧ P g ∧ g < w.heap.size
theorem Sh.fr {P : Nat → Prop} {w w' : World} {X : Nat → Prop} {a : Option Addr} {n c : Nat} (h : Sh P w a n c) (hf : Fr w w' X) : Sh P w' a n c := h.imp (fun h => h) (fun ⟨g, off, h1, h2, h3⟩ => ⟨g, off, h1, h2, Nat.lt_of_lt_of_le h3 hf.size⟩)
theorem own_cols {P : Nat → Prop} {w : World} {a : Option Addr} {n c : Nat} {C : List Cn} (h : w.ownsRow 0 37 2 (.slice a n c) n (encC C)) (hP : ∀ k, (Value.slice a n c).ownBlock = some k → P k) : ColsIn P w a C ∧ Sh P w a n c := by
  refine ⟨fun i x hi => ?_, ?_⟩
  · obtain ⟨h1, h2⟩ := encC_get C i x hi
    obtain ⟨g, rfl, e1⟩ := row_cell h h1
    obtain ⟨g', e0, e2⟩ := row_cell h h2
    cases e0
    exact ⟨g, 0, rfl, hP g rfl, by rw [Nat.zero_add]; exact e1, by rw [Nat.zero_add]; exact e2⟩
  · rcases h.2 with ⟨h1, h0⟩ | ⟨g, cap, cur, h1, _, hb, _⟩
    · cases h1; exact .inl ⟨h0, rfl⟩
    · cases h1; exact .inr ⟨g, 0, rfl, hP g rfl, (Array.getElem?_eq_some_iff.1 hb).1⟩
theorem own_strs {P : Nat → Prop} {w : World} {a : Option Addr} {n c : Nat} {L : List ByteArray} (h : w.ownsRow 0 9 1 (.slice a n c) n (L.map Value.string)) (hP : ∀ k, (Value.slice a n c).ownBlock = some k → P k) : StrsIn P w a L ∧ Sh P w a n c := by
  refine ⟨fun i x hi => ?_, ?_⟩
  · obtain ⟨g, rfl, e1⟩ := row_cell h (i := i) (u := .string x) (by rw [List.getElem?_map, hi]; rfl)
    exact ⟨g, 0, rfl, hP g rfl, by rw [Nat.zero_add]; exact e1⟩
  · rcases h.2 with ⟨h1, h0⟩ | ⟨g, cap, cur, h1, _, hb, _⟩
    · cases h1; exact .inl ⟨h0, rfl⟩
    · cases h1; exact .inr ⟨g, 0, rfl, hP g rfl, (Array.getElem?_eq_some_iff.1 hb).1⟩
theorem row_empty (w : World) (e : TypeId) (size : Nat) : (w.alloc (.cells #[] e)).ownsRow 0 e size (.slice (some ⟨w.heap.size, 0, none⟩) 0 0) 0 [] := by
  refine ⟨by simp, .inr ⟨w.heap.size, 0, #[], rfl, Nat.zero_le _, heap_alloc_new w _, Nat.le_refl _, by unfold maxLen; omega, by simp, by simp⟩⟩
theorem run_eql_nil27 (w : World) (a : Option Addr) (n c : Nat) : (binOp .eql 27 (.slice a n c) (.slice none 0 0)).run Try.prog w = .ok (.bool a.isNone) w := by
  simp only [binOp]
  simp [Op.equal, Op.maxDepth, Lib.run_equalIn_slice_nil w 9999 27 37 a n c 0 0 Try.underlying27]
theorem run_eql_nil28 (w : World) (a : Option Addr) (n c : Nat) : (binOp .eql 28 (.slice a n c) (.slice none 0 0)).run Try.prog w = .ok (.bool a.isNone) w := by
  simp only [binOp]
  simp [Op.equal, Op.maxDepth, Lib.run_equalIn_slice_nil w 9999 28 9 a n c 0 0 Try.underlying28]
theorem empty27 (w : World) : (Instr.buildSlice 27 0 #[]).run Try.prog w = .ok (.slice (some ⟨w.heap.size, 0, none⟩) 0 0) (w.alloc (.cells #[] 37)) := by kernel_rfl
theorem empty28 (w : World) : (Instr.buildSlice 28 0 #[]).run Try.prog w = .ok (.slice (some ⟨w.heap.size, 0, none⟩) 0 0) (w.alloc (.cells #[] 9)) := by kernel_rfl
set_option maxHeartbeats 2000000 in
theorem cat_any27 (w : World) (g : Nat) (x : Addr) : (Builtin.append_ #[27, 27] 27 #[.slice (some ⟨g, 0, none⟩) 0 0, .slice (some x) 0 0]).run Try.prog w = .ok (.slice (some ⟨g, 0, none⟩) 0 0) w := by kernel_rfl
theorem cat_any28 (w : World) (g : Nat) (x : Addr) : (Builtin.append_ #[28, 28] 28 #[.slice (some ⟨g, 0, none⟩) 0 0, .slice (some x) 0 0]).run Try.prog w = .ok (.slice (some ⟨g, 0, none⟩) 0 0) w := by kernel_rfl
set_option maxHeartbeats 2000000 in
theorem cloneC_any {P : Nat → Prop} {w : World} (a : Option Addr) (n c : Nat) (C : List Cn) (hC : ColsIn P w a C) (hn : C.length = n) (hb : n ≤ 1048576) (hs : Sh P w a n c) : Calls Try.prog 50 #[.slice a n c] w fun e w' => ∃ a' c', e = .returned (.slice a' n c') ∧ ColsIn (fun g => w.heap.size ≤ g) w' a' C ∧ Sh (fun g => w.heap.size ≤ g) w' a' n c' ∧ Fr w w' (fun _ => False) := by
  rcases hs with ⟨rfl, rfl⟩ | ⟨g, off, rfl, _, _⟩
  · cases a with
    | none =>
      have hC0 : C = [] := List.eq_nil_of_length_eq_zero hn
      have HC := hide hC0
      have heq := fun w1 => run_eql_nil27 w1 none 0 0
      clear hC hn hC0
      go_enter Try.func50, Try.ntmps50
      go_wp2
      go_ret
      exact ⟨none, 0, rfl, by rw [HC.out]; intro i x hi; simp at hi, .inl ⟨rfl, rfl⟩, Fr.refl _ _⟩
    | some x =>
      have hC0 : C = [] := List.eq_nil_of_length_eq_zero hn
      have HC := hide hC0
      have heq := fun w1 => run_eql_nil27 w1 (some x) 0 0
      clear hC hn hC0
      go_enter Try.func50, Try.ntmps50
      have hem := empty27
      go_wp2_with (refine wpList_plain rfl fun _ hK => wp_append_to (.tmp 5) (.tmp 6) 27 rfl _ rfl _ rfl (.slice (some ⟨w.heap.size, 0, none⟩) 0 0) (.slice (some x) 0 0) rfl rfl _ _ (cat_any27 _ w.heap.size x) (hK _ _ ?_); clear hK)
      go_ret
      exact ⟨_, 0, rfl, by rw [HC.out]; intro i x hi; simp at hi, .inl ⟨rfl, rfl⟩, Fr.alloc _ _ _⟩
  · have FA := Fr.alloc w (.cells #[] 37) (fun _ => False)
    obtain ⟨i, hi, hz, hsz, hby⟩ := full37
    obtain ⟨v', W', hr, q1, q2, q3⟩ := run_append_gen (P := Try.prog) (w.alloc (.cells #[] 37)) 27 27 37 i _ 2 24 Try.underlying27 hi hz hsz hby rfl (by omega) _ 0 [] (row_empty w 37 2) ⟨g, off, none⟩ n c (encC C) (by rw [encC_length, hn]) (encC_cells (hC.fr FA (fun _ _ h => h))) (encC_one C) (by unfold maxLen; omega) (by omega)
    rw [Nat.zero_add, List.nil_append] at q1
    obtain ⟨a', c', rfl⟩ := shape_n q1
    have hfresh : ∀ k, (Value.slice a' n c').ownBlock = some k → w.heap.size ≤ k := fun k hk => by
      rcases q3 with q | ⟨p, q, hp⟩
      · rw [q] at hk; cases hk; exact Nat.le_refl _
      · rw [q] at hk; cases hk; have := FA.size; omega
    have HR := hide (own_cols q1 hfresh)
    have HF := hide ((FA.trans (Fr.grown q2)).mono (Y := fun _ => False) (fun k hk h => by
      rcases h with h | h
      · exact h
      · have := Option.some.inj h; simp only [] at this; omega))
    have heq := fun w1 => run_eql_nil27 w1 (some ⟨g, off, none⟩) n c
    have hem := empty27
    clear hC hn FA q1 q2 q3 hfresh
    go_enter Try.func50, Try.ntmps50
    go_wp2_with (refine wpList_plain rfl fun _ hK => wp_append_to (.tmp 5) (.tmp 6) 27 rfl _ rfl _ rfl (.slice (some ⟨w.heap.size, 0, none⟩) 0 0) (.slice (some ⟨g, off, none⟩) n c) rfl rfl _ _ hr (hK _ _ ?_); clear hK)
    go_ret
    exact ⟨a', c', rfl, HR.out.1, HR.out.2, HF.out⟩
set_option maxHeartbeats 2000000 in
theorem cloneS_any {P : Nat → Prop} {w : World} (a : Option Addr) (n c : Nat) (L : List ByteArray) (hL : StrsIn P w a L) (hn : L.length = n) (hb : n ≤ 1048576) (hs : Sh P w a n c) : Calls Try.prog 51 #[.slice a n c] w fun e w' => ∃ a' c', e = .returned (.slice a' n c') ∧ StrsIn (fun g => w.heap.size ≤ g) w' a' L ∧ Sh (fun g => w.heap.size ≤ g) w' a' n c' ∧ Fr w w' (fun _ => False) := by
  rcases hs with ⟨rfl, rfl⟩ | ⟨g, off, rfl, _, _⟩
  · cases a with
    | none =>
      have hL0 : L = [] := List.eq_nil_of_length_eq_zero hn
      have HC := hide hL0
      have heq := fun w1 => run_eql_nil28 w1 none 0 0
      clear hL hn hL0
      go_enter Try.func51, Try.ntmps51
      go_wp2
      go_ret
      exact ⟨none, 0, rfl, by rw [HC.out]; intro i x hi; simp at hi, .inl ⟨rfl, rfl⟩, Fr.refl _ _⟩
    | some x =>
      have hL0 : L = [] := List.eq_nil_of_length_eq_zero hn
      have HC := hide hL0
      have heq := fun w1 => run_eql_nil28 w1 (some x) 0 0
      clear hL hn hL0
      go_enter Try.func51, Try.ntmps51
      have hem := empty28
      go_wp2_with (refine wpList_plain rfl fun _ hK => wp_append_to (.tmp 5) (.tmp 6) 28 rfl _ rfl _ rfl (.slice (some ⟨w.heap.size, 0, none⟩) 0 0) (.slice (some x) 0 0) rfl rfl _ _ (cat_any28 _ w.heap.size x) (hK _ _ ?_); clear hK)
      go_ret
      exact ⟨_, 0, rfl, by rw [HC.out]; intro i x hi; simp at hi, .inl ⟨rfl, rfl⟩, Fr.alloc _ _ _⟩
  · have FA := Fr.alloc w (.cells #[] 9) (fun _ => False)
    have hL1 := hL.fr FA (fun _ _ h => h)
    obtain ⟨i, hi, hz, hsz, hby⟩ := full9
    obtain ⟨v', W', hr, q1, q2, q3⟩ := run_append_gen (P := Try.prog) (w.alloc (.cells #[] 9)) 28 28 9 i _ 1 16 Try.underlying28 hi hz hsz hby rfl (by omega) _ 0 [] (row_empty w 9 1) ⟨g, off, none⟩ n c (L.map Value.string) (by rw [List.length_map, hn, Nat.mul_one]) (fun j u hu => by
      rw [List.getElem?_map] at hu
      obtain ⟨x, hx, rfl⟩ := Option.map_eq_some_iff.1 hu
      obtain ⟨g', off', e, _, e2⟩ := hL1 j x hx
      cases e
      rw [Addr.add_mid]; exact e2) (fun u hu => by obtain ⟨x, _, rfl⟩ := List.mem_map.1 hu; rfl) (by unfold maxLen; omega) (by omega)
    rw [Nat.zero_add, List.nil_append] at q1
    obtain ⟨a', c', rfl⟩ := shape_n q1
    have hfresh : ∀ k, (Value.slice a' n c').ownBlock = some k → w.heap.size ≤ k := fun k hk => by
      rcases q3 with q | ⟨p, q, hp⟩
      · rw [q] at hk; cases hk; exact Nat.le_refl _
      · rw [q] at hk; cases hk; have := FA.size; omega
    have HR := hide (own_strs q1 hfresh)
    have HF := hide ((FA.trans (Fr.grown q2)).mono (Y := fun _ => False) (fun k hk h => by
      rcases h with h | h
      · exact h
      · have := Option.some.inj h; simp only [] at this; omega))
    have heq := fun w1 => run_eql_nil28 w1 (some ⟨g, off, none⟩) n c
    have hem := empty28
    clear hL hL1 hn FA q1 q2 q3 hfresh
    go_enter Try.func51, Try.ntmps51
    go_wp2_with (refine wpList_plain rfl fun _ hK => wp_append_to (.tmp 5) (.tmp 6) 28 rfl _ rfl _ rfl (.slice (some ⟨w.heap.size, 0, none⟩) 0 0) (.slice (some ⟨g, off, none⟩) n c) rfl rfl _ _ hr (hK _ _ ?_); clear hK)
    go_ret
    exact ⟨a', c', rfl, HR.out.1, HR.out.2, HF.out⟩
theorem BoxT.range {w : World} {g : Nat} {t : Tb} (h : BoxT w g t) : w.rangeAt g 0 [.int .i64 t.id, .string t.name, .slice t.ca t.cn t.cc, .slice t.ka t.kn t.kc, .bool t.ix] := by
  obtain ⟨c0, c1, c2, c3, c4⟩ := h.cells
  intro j v hv
  match j, hv with
  | 0, hv => cases hv; exact c0
  | 1, hv => cases hv; exact c1
  | 2, hv => cases hv; exact c2
  | 3, hv => cases hv; exact c3
  | 4, hv => cases hv; exact c4
theorem BoxT.frozen {w : World} {g : Nat} {t : Tb} (h : BoxT w g t) (o : Nat) : w.frozen? ⟨g, o, none⟩ = false := by unfold BoxT at h; simp [World.frozen?, h]
theorem results_tb {fn : Func} {p : Tmp} (h : fn.results = #[.cell p 30]) (tmps : Array Value) (w : World) (g : Nat) {t : Tb} (ht : BoxT w g t) (hp : tmps.getD p undef = .pointer (some ⟨g, 0, none⟩)) :
    (results fn tmps).run Try.prog w = .ok t.agg w := by
  have hp' : tmps[p]?.getD undef = .pointer (some ⟨g, 0, none⟩) := by simpa using hp
  simp [results, h, hp', asAddr, Tb.agg, run_loadVar_mid (P := Try.prog) w g 0 30 [.int .i64 t.id, .string t.name, .slice t.ca t.cn t.cc, .slice t.ka t.kn t.kc, .bool t.ix] _ ht.range Try.underlying30 rfl (by kernel_rfl)]
theorem results_tb2 {fn : Func} {p q : Tmp} (h : fn.results = #[.cell p 30, .tmp q]) (tmps : Array Value) (w : World) (g : Nat) {t : Tb} (ht : BoxT w g t) (hp : tmps.getD p undef = .pointer (some ⟨g, 0, none⟩)) :
    (results fn tmps).run Try.prog w = .ok (.tuple #[t.agg, tmps.getD q undef]) w := by
  have hp' : tmps[p]?.getD undef = .pointer (some ⟨g, 0, none⟩) := by simpa using hp
  simp [results, h, hp', asAddr, Tb.agg, run_loadVar_mid (P := Try.prog) w g 0 30 [.int .i64 t.id, .string t.name, .slice t.ca t.cn t.cc, .slice t.ka t.kn t.kc, .bool t.ix] _ ht.range Try.underlying30 rfl (by kernel_rfl)]
def zeroT : Tb := ⟨0, ⟨#[]⟩, none, 0, 0, [], none, 0, 0, [], false⟩
theorem BoxT.fill {w : World} {g : Nat} {t t' : Tb} (h : BoxT w g t) (w' : World) (hw : w' = ((((w.setCell ⟨g, 0, none⟩ (.int .i64 t'.id)).setCell ⟨g, 1, none⟩ (.string t'.name)).setCell ⟨g, 2, none⟩ (.slice t'.ca t'.cn t'.cc)).setCell ⟨g, 3, none⟩ (.slice t'.ka t'.kn t'.kc)).setCell ⟨g, 4, none⟩ (.bool t'.ix)) : BoxT w' g t' := by
  unfold BoxT at *
  rw [hw]
  have h1 := heap_setCell_here _ g 0 (.int .i64 t'.id) _ _ _ h
  have h2 := heap_setCell_here _ g 1 (.string t'.name) _ _ _ h1
  have h3 := heap_setCell_here _ g 2 (.slice t'.ca t'.cn t'.cc) _ _ _ h2
  have h4 := heap_setCell_here _ g 3 (.slice t'.ka t'.kn t'.kc) _ _ _ h3
  have h5 := heap_setCell_here _ g 4 (.bool t'.ix) _ _ _ h4
  exact h5
theorem fr_fill {w : World} {g : Nat} {t' : Tb} (w' : World) (hw : w' = ((((w.setCell ⟨g, 0, none⟩ (.int .i64 t'.id)).setCell ⟨g, 1, none⟩ (.string t'.name)).setCell ⟨g, 2, none⟩ (.slice t'.ca t'.cn t'.cc)).setCell ⟨g, 3, none⟩ (.slice t'.ka t'.kn t'.kc)).setCell ⟨g, 4, none⟩ (.bool t'.ix)) : Fr w w' (fun k => k = g) := by
  rw [hw]
  exact (((((Fr.setCell w ⟨g, 0, none⟩ _).trans (Fr.setCell _ ⟨g, 1, none⟩ _)).trans (Fr.setCell _ ⟨g, 2, none⟩ _)).trans (Fr.setCell _ ⟨g, 3, none⟩ _)).trans (Fr.setCell _ ⟨g, 4, none⟩ _)).mono (fun k _ h => by simpa using h)
set_option maxHeartbeats 4000000 in
theorem own_any {P : Nat → Prop} {w : World} (t : Tb) (h : TabIn P w t) : Calls Try.prog 30 #[t.agg] w fun e w' => ∃ a c a2 c2, e = .returned ({ t with ca := a, cc := c, ka := a2, kc := c2 } : Tb).agg ∧ TabIn (fun g => w.heap.size ≤ g) w' { t with ca := a, cc := c, ka := a2, kc := c2 } ∧ Fr w w' (fun _ => False) := by
  obtain ⟨w1, hw1⟩ : ∃ w1, w1 = w.alloc (.cells #[.int .i64 t.id, .string t.name, .slice t.ca t.cn t.cc, .slice t.ka t.kn t.kc, .bool t.ix] 30) := ⟨_, rfl⟩
  have b1 : BoxT w1 w.heap.size t := by rw [hw1]; exact heap_alloc_new w _
  have f1 : Fr w w1 (fun _ => False) := by rw [hw1]; exact Fr.alloc w _ _
  have s1 : w1.heap.size = w.heap.size + 1 := by rw [hw1]; simp
  obtain ⟨w2, hw2⟩ : ∃ w2, w2 = w1.alloc (.cells #[.int .i64 0, .string ⟨#[]⟩, .slice none 0 0, .slice none 0 0, .bool false] 30) := ⟨_, rfl⟩
  have f2 : Fr w1 w2 (fun _ => False) := by rw [hw2]; exact Fr.alloc w1 _ _
  have z2 : BoxT w2 (w.heap.size + 1) zeroT := by rw [hw2, ← s1]; exact heap_alloc_new w1 _
  have HB2 := hide (b1.fr f2 (fun h => h))
  have HT2 := hide (h.fr (f1.two f2) (fun _ _ h => h))
  have HF2 := hide (f1.two f2)
  have HZ2 := hide z2
  have s2 : w2.heap.size = w.heap.size + 2 := by rw [hw2]; simp [s1]
  have HS2 := hide s2
  rw [hw1] at hw2
  have HW := hide hw2
  clear h f1 b1 hw1 f2 z2 s1 s2 hw2
  unfold Tb.agg
  go_enter Try.func30, Try.ntmps30
  go_wp2_with (rw [← HW.out]; clear HW)
  replace HB2 : Hid (BoxT w2.drew w.heap.size t) := hide HB2.out
  replace HZ2 : Hid (BoxT w2.drew (w.heap.size + 1) zeroT) := hide HZ2.out
  replace HT2 := hide (HT2.out.fr (Fr.drew w2 (fun _ => False)) (fun _ _ h => h))
  replace HF2 := hide (HF2.out.two (Fr.drew w2 _))
  replace HS2 : Hid (w2.drew.heap.size = w.heap.size + 2) := hide HS2.out
  refine wp_region_K (fun z => decide (z < 7)) (fun U : World => Fr w2.drew U (fun _ => False)) (by kernel_rfl) ?_
  generalize w2.drew = U0 at *
  have hS : (fun U : World => Fr U0 U (fun _ => False)) U0 := Fr.refl _ _
  refine wpAnyK_takeTo 0 (some 3) (.pointer (some ⟨w.heap.size, 2, none⟩)) [1, 2, 5, 6, 7, 8, 9] rfl rfl (by kernel_rfl) (by kernel_rfl) (by kernel_rfl) (by kernel_rfl) (fun _ _ _ h => h) hS (Or.inl ⟨rfl, fun w1 hw1 => by obtain ⟨x0, x1, x2, x3, x4⟩ := (HB2.out.fr hw1 (fun h => h)).cells; go_simp⟩) ?_
  simp only [Act.put, List.setIfInBounds_toArray, List.set_cons_zero, List.set_cons_succ]
  refine wpAnyK_takeTo 1 (some 4) (.slice t.ca t.cn t.cc) [2, 5, 6, 7, 8, 9] rfl rfl (by kernel_rfl) (by kernel_rfl) (by kernel_rfl) (by kernel_rfl) (fun _ _ _ h => h) hS (Or.inl ⟨rfl, fun w1 hw1 => by obtain ⟨x0, x1, x2, x3, x4⟩ := (HB2.out.fr hw1 (fun h => h)).cells; go_simp⟩) ?_
  simp only [Act.put, List.setIfInBounds_toArray, List.set_cons_zero, List.set_cons_succ]
  refine wpAnyK_takeTo 3 (some 6) (.pointer (some ⟨w.heap.size, 3, none⟩)) [4, 5, 6, 7, 8, 9] rfl rfl (by kernel_rfl) (by kernel_rfl) (by kernel_rfl) (by kernel_rfl) (fun _ _ _ h => h) hS (Or.inl ⟨rfl, fun w1 hw1 => by obtain ⟨x0, x1, x2, x3, x4⟩ := (HB2.out.fr hw1 (fun h => h)).cells; go_simp⟩) ?_
  simp only [Act.put, List.setIfInBounds_toArray, List.set_cons_zero, List.set_cons_succ]
  refine wpAnyK_takeTo 4 (some 7) (.slice t.ka t.kn t.kc) [5, 6, 7, 8, 9] rfl rfl (by kernel_rfl) (by kernel_rfl) (by kernel_rfl) (by kernel_rfl) (fun _ _ _ h => h) hS (Or.inl ⟨rfl, fun w1 hw1 => by obtain ⟨x0, x1, x2, x3, x4⟩ := (HB2.out.fr hw1 (fun h => h)).cells; go_simp⟩) ?_
  simp only [Act.put, List.setIfInBounds_toArray, List.set_cons_zero, List.set_cons_succ]
  clear hS
  refine wpAnyK_one (i := 2) (by kernel_rfl) rfl rfl ?_
  refine wp_call_to (some 5) rfl 50 #[.slice t.ca t.cn t.cc] (by go_simp) (cloneC_any t.ca t.cn t.cc t.C HT2.out.cols HT2.out.cn HT2.out.cb HT2.out.cs) ?_
  rintro e U1 ⟨a, c, rfl, hc1, hs1, g1⟩
  refine ⟨_, rfl, fun _ => g1, ?_⟩
  simp only [Act.put, List.setIfInBounds_toArray, List.set_cons_zero, List.set_cons_succ]
  have HC1 := hide hc1
  have HS1 := hide hs1
  have HG1 := hide g1
  have hS : (fun U : World => Fr U0 U (fun _ => False)) U1 := g1
  clear hc1 hs1 g1
  refine wpAnyK_takeTo 6 (some 9) (.pointer (some ⟨w.heap.size, 2, none⟩)) [7, 8, 9] rfl rfl (by kernel_rfl) (by kernel_rfl) (by kernel_rfl) (by kernel_rfl) (fun _ _ _ h => h) hS (Or.inl ⟨rfl, fun w1 hw1 => by go_simp⟩) ?_
  simp only [Act.put, List.setIfInBounds_toArray, List.set_cons_zero, List.set_cons_succ]
  clear hS
  refine wpAnyK_one (i := 5) (by kernel_rfl) rfl rfl ?_
  have HT3 := hide (HT2.out.fr HG1.out (fun _ _ h => h))
  refine wp_call_to (some 8) rfl 51 #[.slice t.ka t.kn t.kc] (by go_simp) (cloneS_any t.ka t.kn t.kc t.K HT3.out.keys HT3.out.kn HT3.out.kb HT3.out.ks) ?_
  rintro e U2 ⟨a2, c2, rfl, hk2, hs2, g2⟩
  refine ⟨_, rfl, fun _ => HG1.out.two g2, ?_⟩
  simp only [Act.put, List.setIfInBounds_toArray, List.set_cons_zero, List.set_cons_succ]
  have HB3 := hide (HB2.out.fr (HG1.out.two g2) (fun h => h))
  have HZ3 := hide (HZ2.out.fr (HG1.out.two g2) (fun h => h))
  have HF3 := hide (HF2.out.two (HG1.out.two g2))
  have HT4 : Hid (TabIn (fun g => U0.heap.size ≤ g) U2 { t with ca := a, cc := c, ka := a2, kc := c2 }) := hide ⟨HC1.out.fr g2 (fun _ _ h => h), HT2.out.cn, HT2.out.cb, HS1.out.fr g2, fun i x hi => by
    obtain ⟨g, off, e1, e2, e3⟩ := hk2 i x hi
    exact ⟨g, off, e1, Nat.le_trans HG1.out.size e2, e3⟩, HT2.out.kn, HT2.out.kb, hs2.imp (fun h => h) (fun ⟨g, off, e1, e2, e3⟩ => ⟨g, off, e1, Nat.le_trans HG1.out.size e2, e3⟩), HT2.out.id⟩
  clear hk2 hs2 g2 HC1 HS1 HG1 HT2 HT3 HB2 HZ2 HF2
  obtain ⟨x0, x1, x2, x3, x4⟩ := HB3.out.cells
  have z2 := HB3.out.frozen 2
  have y2 := heap_setCell_here _ w.heap.size 2 (.slice a t.cn c) _ _ _ HB3.out
  obtain ⟨U3, hU3⟩ : ∃ U3, U3 = U2.setCell ⟨w.heap.size, 2, none⟩ (.slice a t.cn c) := ⟨_, rfl⟩
  have f3 : Fr U2 U3 (fun k => k = w.heap.size) := by rw [hU3]; exact Fr.setCell _ _ _
  rw [← hU3] at y2
  have z3 : U3.frozen? ⟨w.heap.size, 3, none⟩ = false := by simp [World.frozen?, y2]
  have d3 : U3.cell? ⟨w.heap.size, 3, none⟩ = some (.slice t.ka t.kn t.kc) := (cell_of_row _ _ _ _ _ _ y2).trans rfl
  have y3 := heap_setCell_here _ w.heap.size 3 (.slice a2 t.kn c2) _ _ _ y2
  obtain ⟨U4, hU4⟩ : ∃ U4, U4 = U3.setCell ⟨w.heap.size, 3, none⟩ (.slice a2 t.kn c2) := ⟨_, rfl⟩
  have f4 : Fr U3 U4 (fun k => k = w.heap.size) := by rw [hU4]; exact Fr.setCell _ _ _
  rw [← hU4] at y3
  have HB4 : Hid (BoxT U4 w.heap.size { t with ca := a, cc := c, ka := a2, kc := c2 }) := hide y3
  have F4 : Fr U2 U4 (fun k => k = w.heap.size) := (f3.trans f4).mono (fun k _ h => h.elim id id)
  have HZ4 := hide (HZ3.out.fr F4 (fun h => by omega))
  have HT5 := hide (HT4.out.fr F4 (fun k hk h => by have := HS2.out; omega))
  have HF4 := hide ((HF3.out.trans F4).mono (Y := fun _ => False) (fun k hk h => by rcases h with h | h; exact h; omega))
  have HU3 := hide hU3
  have HU4 := hide hU4
  clear y2 y3 f3 f4 F4 HB3 HZ3 HT4 HF3 hU3 hU4
  refine wpAnyK_one (i := 7) (by kernel_rfl) rfl rfl ?_
  go_simp
  rw [← HU3.out]
  refine wpAnyK_one (i := 8) (by kernel_rfl) rfl rfl ?_
  go_simp
  refine wpAnyK_one (i := 9) (by kernel_rfl) rfl rfl ?_
  go_simp
  rw [← HU4.out]
  refine wpAnyK_done (by kernel_rfl) ?_ _
  clear HU3 HU4 z2 z3 d3 x0 x1 x2 x3 x4
  obtain ⟨x0, x1, x2, x3, x4⟩ := HB4.out.cells
  obtain ⟨z0, z1, z2, z3, z4⟩ := HZ4.out.cells
  have q0 := HZ4.out.frozen 0
  have q1 := HZ4.out.frozen 1
  have q2 := HZ4.out.frozen 2
  have q3 := HZ4.out.frozen 3
  have q4 := HZ4.out.frozen 4
  obtain ⟨U5, hU5⟩ : ∃ U5, U5 = ((((U4.setCell ⟨w.heap.size + 1, 0, none⟩ (.int .i64 t.id)).setCell ⟨w.heap.size + 1, 1, none⟩ (.string t.name)).setCell ⟨w.heap.size + 1, 2, none⟩ (.slice a t.cn c)).setCell ⟨w.heap.size + 1, 3, none⟩ (.slice a2 t.kn c2)).setCell ⟨w.heap.size + 1, 4, none⟩ (.bool t.ix) := ⟨_, rfl⟩
  have HB5 := hide (HZ4.out.fill (t' := { t with ca := a, cc := c, ka := a2, kc := c2 }) U5 hU5)
  have F5 := fr_fill (t' := { t with ca := a, cc := c, ka := a2, kc := c2 }) U5 hU5
  have HT6 := hide (HT5.out.fr F5 (fun k hk h => by have := HS2.out; omega))
  have HF5 := hide ((HF4.out.trans F5).mono (Y := fun _ => False) (fun k hk h => by rcases h with h | h; exact h; omega))
  have HU5 := hide hU5
  clear HB4 HZ4 HT5 HF4 F5 hU5
  go_wp2_with (rw [← HU5.out]; clear HU5)
  refine bodyPost_ret (results_tb Try.results30 _ _ (w.heap.size + 1) HB5.out rfl) rfl ⟨a, c, a2, c2, rfl, ?_, HF5.out⟩
  have hs := HS2.out
  have h := HT6.out
  exact ⟨fun i x hi => by obtain ⟨g, off, e1, e2, e3⟩ := h.cols i x hi; exact ⟨g, off, e1, by omega, e3⟩, h.cn, h.cb, h.cs.imp (fun h => h) (fun ⟨g, off, e1, e2, e3⟩ => ⟨g, off, e1, by omega, e3⟩), fun i x hi => by obtain ⟨g, off, e1, e2, e3⟩ := h.keys i x hi; exact ⟨g, off, e1, by omega, e3⟩, h.kn, h.kb, h.ks.imp (fun h => h) (fun ⟨g, off, e1, e2, e3⟩ => ⟨g, off, e1, by omega, e3⟩), h.id⟩
end Go.Proofs.Ytdeopneififnnaa
