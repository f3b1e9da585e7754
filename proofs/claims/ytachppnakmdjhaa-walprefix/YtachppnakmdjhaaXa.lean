/- The document's disk in memory; its functions blank and Copy. -/
import Derived.Test.YtachppnakmdjhaaOo
namespace Go.Proofs.Ytachppnakmdjhaa
open Go.RowKit
set_option linter.unusedVariables false

theorem rangeAt_block {w : World} {g : Nat} {l : List Value} {t : TypeId} (h : w.heap[g]? = some (.cells l.toArray t (0, 0))) : w.rangeAt g 0 l := by
  intro j v hv
  rw [cell_of_row _ _ _ _ _ _ h, Nat.zero_add]
  simpa using hv

theorem bin_range {w : World} {g n : Nat} {l : List UInt8} (h : w.rangeAt g 0 (enc l)) (hn : l.length = n) : BIn w (some ⟨g, 0, none⟩) n l := by
  refine ⟨hn, by simp, ?_⟩
  rintro x hx j u hu
  injection hx with hx
  subst hx
  have := h j u hu
  rw [Addr.add_mid]
  exact this

theorem full9 : ∃ i, Try.prog.info? 9 = some i ∧ i.zero = some (.string .empty) ∧ i.size = 1 ∧ i.bytes = 16 := by
  have h0 : (Try.prog.info? 9).isSome = true := by kernel_rfl
  have h1 : (Try.prog.info? 9).bind (·.zero) = some (.string .empty) := by kernel_rfl
  have h2 : (Try.prog.info? 9).map (·.size) = some 1 := by kernel_rfl
  have h3 : (Try.prog.info? 9).map (·.bytes) = some 16 := by kernel_rfl
  obtain ⟨i, hi⟩ := Option.isSome_iff_exists.1 h0
  rw [hi] at h1 h2 h3
  exact ⟨i, hi, h1, Option.some.inj h2, Option.some.inj h3⟩

theorem one_str (s : ByteArray) : ∀ u ∈ [Value.string s], u.oneCell' = true := by
  intro u hu
  simp only [List.mem_singleton] at hu
  subst hu
  rfl


/-- A slice's row is copied behind nothing: the same cells in new memory. -/
theorem run_append_copy {P : Program} (w : World) (t ty e : TypeId) (i : TypeInfo) (z : Value) (size bytes : Nat) (ht : P.underlying t = some (.slice e)) (hi : P.info? e = some i) (hz : i.zero = some z)
    (hsize : i.size = size) (hby : i.bytes = bytes) (hzs : z.cells.size = size) (hsz : 0 < size)
    (a : Option Addr) (n c : Nat) (xs : List Value) (hown : w.ownsRow 0 e size (.slice a n c) n xs) (h1 : ∀ u ∈ xs, u.oneCell' = true) (h63 : n ≤ maxLen) (hbytes : n * bytes ≤ 140737488355328) :
    ∃ a' c' w', (Builtin.append_ #[t, t] ty #[.slice none 0 0, .slice a n c]).run P w = .ok (.slice a' n c') w' ∧ w'.ownsRow 0 e size (.slice a' n c') n xs ∧ Fr w w' (fun _ => False) ∧ (∀ k, (Value.slice a' n c').ownBlock = some k → w.heap.size ≤ k) := by
  rcases hown.2 with ⟨h2, h3⟩ | ⟨g, cap, cur, hv, r⟩
  · simp only [Value.slice.injEq] at h2
    obtain ⟨rfl, rfl, rfl⟩ := h2
    have := run_append_owned_none (P := P) w 0 t ty e i size ht hi (.slice none 0 0) 0 [] (World.ownsRow_nil w _ e size)
    exact ⟨none, 0, w, this, hown, Fr.refl _ _, by simp [Value.ownBlock]⟩
  · simp only [Value.slice.injEq] at hv
    obtain ⟨rfl, _, rfl⟩ := hv
    obtain ⟨v', w', hr, q1, q2, q3⟩ := run_append_gen (P := P) w t ty e i z size bytes ht hi hz hsize hby hzs hsz (.slice none 0 0) 0 [] (World.ownsRow_nil w 0 e size) ⟨g, 0, none⟩ n c xs hown.1 (hown.cells rfl) h1 (by omega) (by rw [Nat.zero_add]; exact hbytes)
    rw [Nat.zero_add, List.nil_append] at q1
    obtain ⟨a', c', hv'⟩ : ∃ a' c', v' = .slice a' n c' := by
      rcases q1.2 with ⟨h4, h5⟩ | ⟨g', c', cur', h4, _⟩
      · exact ⟨none, 0, by rw [h4, h5]⟩
      · exact ⟨_, c', h4⟩
    subst hv'
    refine ⟨a', c', w', hr, q1, (Fr.grown q2).mono (by intro k _ hk; simp [Value.ownBlock] at hk), ?_⟩
    intro k hk
    rcases q3 with h4 | ⟨k', h4, h5⟩
    · rw [h4] at hk; simp [Value.ownBlock] at hk
    · rw [h4] at hk; injection hk; omega

theorem wpList_append_copy {P : Program} {w : World} {ops : Array Oper} {rest : List Oper} {o : Oper} {act : Act} {Q : Exit → Act → World → Prop} (hgd : o.guard = none) (s x : Operand) (t : TypeId)
    (ho : o.op = .call { callee := .builtin .append, args := #[s, x], argTypes := #[t, t] }) (e : TypeId) (i : TypeInfo) (z : Value) (size bytes : Nat) (ht : P.underlying t = some (.slice e)) (hi : P.info? e = some i) (hz : i.zero = some z)
    (hsize : i.size = size) (hby : i.bytes = bytes) (hzs : z.cells.size = size) (hsz : 0 < size)
    (a : Option Addr) (n c : Nat) (xs : List Value) (hs : act.eval s = .slice none 0 0) (hx : act.eval x = .slice a n c) (hown : w.ownsRow 0 e size (.slice a n c) n xs) (h1 : ∀ u ∈ xs, u.oneCell' = true) (h63 : n ≤ maxLen) (hbytes : n * bytes ≤ 140737488355328)
    (h : ∀ a' c' w', w'.ownsRow 0 e size (.slice a' n c') n xs → Fr w w' (fun _ => False) → (∀ k, (Value.slice a' n c').ownBlock = some k → w.heap.size ≤ k) → wpList P ops Q rest (act.put o.dst (.slice a' n c')) w') : wpList P ops Q (o :: rest) act w := by
  obtain ⟨a', c', w', hr, q1, q2, q3⟩ := run_append_copy (P := P) w t o.type e i z size bytes ht hi hz hsize hby hzs hsz a n c xs hown h1 h63 hbytes
  exact wpList_plain hgd fun _ hK => wp_append_to s x t ho _ rfl _ rfl _ _ hs hx _ _ hr (hK _ _ (h a' c' w' q1 q2 q3))

theorem full93 : ∃ i, Try.prog.info? 113 = some i ∧ i.zero = some (.agg #[.int .i64 0, .string .empty]) ∧ i.size = 2 ∧ i.bytes = 24 := by
  have h0 : (Try.prog.info? 113).isSome = true := by kernel_rfl
  have h1 : (Try.prog.info? 113).bind (·.zero) = some (.agg #[.int .i64 0, .string .empty]) := by kernel_rfl
  have h2 : (Try.prog.info? 113).map (·.size) = some 2 := by kernel_rfl
  have h3 : (Try.prog.info? 113).map (·.bytes) = some 24 := by kernel_rfl
  obtain ⟨i, hi⟩ := Option.isSome_iff_exists.1 h0
  rw [hi] at h1 h2 h3
  exact ⟨i, hi, h1, Option.some.inj h2, Option.some.inj h3⟩

set_option maxHeartbeats 400000 in
theorem blank_any (w : World) : Calls Try.prog 32 #[] w fun e w' => e = .returned (.string (strOf blank)) ∧ Fr w w' (fun _ => False) := by
  have hmk := made256
  have hcv := run_string (w.alloc (.cells (enc (part 0 0)).toArray 5)) (some ⟨w.heap.size, 0, none⟩) 256 256 blank (bin_range (rangeAt_block (heap_alloc_new w _)) length_blank)
  go_enter Try.func32, Try.ntmps32
  go_wp2
  go_ret
  exact ⟨rfl, Fr.alloc _ _ _⟩

theorem results_two {fn : Func} {p : Tmp} (h : fn.results = #[.cell p 31]) (tmps : Array Value) (w : World) (g : Nat) {x y : Value} (ht : Two w g x y) (hp : tmps.getD p undef = .pointer (some ⟨g, 0, none⟩)) : (results fn tmps).run Try.prog w = .ok (.agg #[x, y]) w := by
  have hp' : tmps[p]?.getD undef = .pointer (some ⟨g, 0, none⟩) := by simpa using hp
  simp [results, h, hp', asAddr, run_loadVar_mid (P := Try.prog) w g 0 31 [x, y] _ ht.range Try.underlying31 rfl (by kernel_rfl)]

theorem results_two2 {fn : Func} {p r : Tmp} (h : fn.results = #[.cell p 31, .tmp r]) (tmps : Array Value) (w : World) (g : Nat) {x y z : Value} (ht : Two w g x y) (hp : tmps.getD p undef = .pointer (some ⟨g, 0, none⟩)) (hr : tmps.getD r undef = z) : (results fn tmps).run Try.prog w = .ok (.tuple #[.agg #[x, y], z]) w := by
  have hp' : tmps[p]?.getD undef = .pointer (some ⟨g, 0, none⟩) := by simpa using hp
  have hr' : tmps[r]?.getD undef = z := by simpa using hr
  simp [results, h, hp', hr', asAddr, run_loadVar_mid (P := Try.prog) w g 0 31 [x, y] _ ht.range Try.underlying31 rfl (by kernel_rfl)]

theorem box3 {w w1 : World} {p1 q1 p2 q2 p3 q3 : Value} {t1 t2 t3 : TypeId} (F : Fr (((w.alloc (.cells #[p1, q1] t1)).alloc (.cells #[p2, q2] t2)).alloc (.cells #[p3, q3] t3)) w1 (fun _ => False)) :
    Two w1 w.heap.size p1 q1 ∧ Two w1 (w.heap.size + 1) p2 q2 ∧ Two w1 (w.heap.size + 1 + 1) p3 q3 := by
  have h3 := heap_alloc_new ((w.alloc (.cells #[p1, q1] t1)).alloc (.cells #[p2, q2] t2)) (.cells #[p3, q3] t3)
  simp only [World.size_alloc] at h3
  have h2 := heap_alloc2_new w (.cells #[p1, q1] t1) (.cells #[p2, q2] t2)
  have h1 := heap_alloc2_old w (.cells #[p1, q1] t1) (.cells #[p2, q2] t2)
  have A := Fr.alloc ((w.alloc (.cells #[p1, q1] t1)).alloc (.cells #[p2, q2] t2)) (.cells #[p3, q3] t3) (fun _ => False)
  exact ⟨((two_of h1).fr A id).fr F id, ((two_of h2).fr A id).fr F id, (two_of h3).fr F id⟩

theorem Fr.alloc3 (w : World) (o1 o2 o3 : Obj) : Fr w (((w.alloc o1).alloc o2).alloc o3) (fun _ => False) :=
  ((Fr.alloc w o1 (fun _ => False)).trans ((Fr.alloc _ o2 (fun _ => False)).trans (Fr.alloc _ o3 (fun _ => False)))).mono (by simp)

theorem ownsRow_keep {w w' : World} {e : TypeId} {size : Nat} {v : Value} {n : Nat} {xs : List Value} (h : w.ownsRow 0 e size v n xs) (hf : Fr w w' (fun k => w.heap.size ≤ k)) : w'.ownsRow 0 e size v n xs :=
  ownsRow_fr h hf (fun k hk hx => by have := (h.lt k hk).2; omega)

theorem copy_second {w w1 : World} {o1 o2 o3 : Obj} {e : TypeId} {size : Nat} {y : Value} {n : Nat} {ys : List Value} (h : w.ownsRow 0 e size y n ys) (F : Fr (((w.alloc o1).alloc o2).alloc o3) w1 (fun _ => False)) (v : Value) :
    (w1.setCell ⟨w.heap.size + 1 + 1, 0, none⟩ v).ownsRow 0 e size y n ys :=
  ownsRow_keep h (((Fr.alloc3 w o1 o2 o3).trans (F.trans (Fr.setCell w1 ⟨w.heap.size + 1 + 1, 0, none⟩ v))).mono (by
    rintro k _ (h2 | h2 | h2)
    · exact h2.elim
    · exact h2.elim
    · have : k = w.heap.size + 1 + 1 := h2
      omega))

theorem box3b {w w1 w2 : World} {p1 q1 p2 q2 p3 q3 v : Value} (hb : Two w1 w.heap.size p1 q1 ∧ Two w1 (w.heap.size + 1) p2 q2 ∧ Two w1 (w.heap.size + 1 + 1) p3 q3)
    (F : Fr (w1.setCell ⟨w.heap.size + 1 + 1, 0, none⟩ v) w2 (fun _ => False)) : Two w2 (w.heap.size + 1 + 1) v q3 ∧ Two w2 (w.heap.size + 1) p2 q2 := by
  have A := Fr.setCell w1 ⟨w.heap.size + 1 + 1, 0, none⟩ v
  exact ⟨(hb.2.2.set0 v).fr F id, (hb.2.1.fr A (by show ¬ (w.heap.size + 1 = w.heap.size + 1 + 1); omega)).fr F id⟩

set_option maxRecDepth 100000 in
set_option maxHeartbeats 1000000 in
theorem rcopy_any {w : World} {a : Option Addr} {n c : Nat} {xs : List Value} {a1 : Option Addr} {n1 c1 : Nat} {ys : List Value} (hx : w.ownsRow 0 9 1 (.slice a n c) n xs) (hy : w.ownsRow 0 113 2 (.slice a1 n1 c1) n1 ys)
    (h1 : ∀ u ∈ xs, u.oneCell' = true) (h2 : ∀ u ∈ ys, u.oneCell' = true) (hn : n ≤ 4096) (hn1 : n1 ≤ 268435456) :
    Calls Try.prog 51 #[.agg #[.slice a n c, .slice a1 n1 c1]] w fun e w' => ∃ a' c' a1' c1', e = .returned (.agg #[.slice a' n c', .slice a1' n1 c1']) ∧ w'.ownsRow 0 9 1 (.slice a' n c') n xs ∧ w'.ownsRow 0 113 2 (.slice a1' n1 c1') n1 ys ∧
      (∀ k, (Value.slice a' n c').ownBlock = some k → w.heap.size ≤ k) ∧ (∀ k, (Value.slice a1' n1 c1').ownBlock = some k → w.heap.size ≤ k) ∧ Fr w w' (fun _ => False) := by
  obtain ⟨i9, p1, p2, p3, p4⟩ := full9
  obtain ⟨i93, q1, q2, q3, q4⟩ := full93
  have P1 := hide p1
  have P2 := hide p2
  have P3 := hide p3
  have P4 := hide p4
  have Q1 := hide q1
  have Q2 := hide q2
  have Q3 := hide q3
  have Q4 := hide q4
  have H1 := hide h1
  have H2 := hide h2
  have HY := hide hy
  have HX := hide (((hx.alloc (.cells #[.slice a n c, .slice a1 n1 c1] 31)).alloc (.cells #[.slice none 0 0, .slice none 0 0] 31)).alloc (.cells #[.slice none 0 0, .slice none 0 0] 31))
  have M1 := hide (by unfold maxLen; omega : n ≤ maxLen)
  have M2 := hide (by omega : n * 16 ≤ 140737488355328)
  have M3 := hide (by unfold maxLen; omega : n1 ≤ maxLen)
  have M4 := hide (by omega : n1 * 24 ≤ 140737488355328)
  clear p1 p2 p3 p4 q1 q2 q3 q4 h1 h2 hx hy
  go_enter Try.func51, Try.ntmps51
  go_wp2_with (first | (refine wpList_append_copy rfl (.tmp 6) (.tmp 8) 28 rfl 9 i9 _ 1 16 Try.underlying28 P1.out P2.out P3.out P4.out rfl (by omega) _ _ _ xs rfl rfl HX.out H1.out M1.out M2.out ?_; intro a' c' w1 ho1 F1 hf1; have HO1 := hide ho1; have HF1 := hide F1; have HG1 := hide hf1; clear ho1 F1 hf1; have HB := hide (box3 HF1.out); have x0 := HB.out.1.2.1; have x2 := HB.out.2.2.1; have x3 := HB.out.2.2.2.1; have x4 := HB.out.2.2.2.2 0; have HY1 := hide (copy_second HY.out HF1.out (.slice a' n c'))) | (refine wpList_append_copy rfl (.tmp 12) (.tmp 14) 29 rfl 113 i93 _ 2 24 Try.underlying29 Q1.out Q2.out Q3.out Q4.out rfl (by omega) _ _ _ ys rfl rfl HY1.out H2.out M3.out M4.out ?_; intro a1' c1' w2 ho2 F2 hf2; have HO2 := hide ho2; have HF2 := hide F2; have HG2 := hide hf2; clear ho2 F2 hf2 x0 x2 x3 x4; have HB2 := hide (box3b HB.out HF2.out); have y0 := HB2.out.1.1; have y1 := HB2.out.1.2.1; have y2 := HB2.out.1.2.2 0; have y3 := HB2.out.1.2.2 1; have y4 := HB2.out.2.1; have y5 := HB2.out.2.2.1; have y6 := HB2.out.2.2.2 1; have y7 := HB2.out.2.2.2 0))
  have R2 := HB2.out.2
  have B2 := (HB2.out.1.set1 (.slice a1' n1 c1'))
  have A1 := Fr.setCell w2 ⟨w.heap.size + 1 + 1, 1, none⟩ (.slice a1' n1 c1')
  have R3 := ((R2.fr A1 (by show ¬ (w.heap.size + 1 = w.heap.size + 1 + 1); omega)).set0 (.slice a' n c')).set1 (.slice a1' n1 c1')
  have F3 := A1.trans ((Fr.setCell _ ⟨w.heap.size + 1, 0, none⟩ (.slice a' n c')).trans (Fr.setCell _ ⟨w.heap.size + 1, 1, none⟩ (.slice a1' n1 c1')))
  have F02 : Fr w w2 (fun k => w.heap.size ≤ k) := ((Fr.alloc3 w _ _ _).trans (HF1.out.trans ((Fr.setCell w1 ⟨w.heap.size + 1 + 1, 0, none⟩ (.slice a' n c')).trans HF2.out))).mono (by
    rintro k _ (h2 | h2 | h2 | h2)
    · exact h2.elim
    · exact h2.elim
    · have : k = w.heap.size + 1 + 1 := h2
      omega
    · exact h2.elim)
  have g1 := HG1.out
  have g2 := HG2.out
  simp only [World.size_alloc, World.size_setCell] at g1 g2
  have s1 := HF1.out.size
  simp only [World.size_alloc] at s1
  have F1b := (Fr.setCell w1 ⟨w.heap.size + 1 + 1, 0, none⟩ (.slice a' n c')).trans (HF2.out.trans F3)
  refine bodyPost_ret (results_two Try.results51 _ _ _ R3 rfl) rfl ⟨a', c', a1', c1', rfl, ?_, ?_, ?_, ?_, ?_⟩
  · refine ownsRow_fr HO1.out F1b (fun k hk => ?_)
    have := g1 k hk
    rintro (h2 | h2 | h2 | h2 | h2)
    · have : k = w.heap.size + 1 + 1 := h2
      omega
    · exact h2
    · have : k = w.heap.size + 1 + 1 := h2
      omega
    · have : k = w.heap.size + 1 := h2
      omega
    · have : k = w.heap.size + 1 := h2
      omega
  · refine ownsRow_fr HO2.out F3 (fun k hk => ?_)
    have := g2 k hk
    rintro (h2 | h2 | h2)
    · have : k = w.heap.size + 1 + 1 := h2
      omega
    · have : k = w.heap.size + 1 := h2
      omega
    · have : k = w.heap.size + 1 := h2
      omega
  · intro k hk; have := g1 k hk; omega
  · intro k hk; have := g2 k hk; omega
  · exact (F02.trans F3).mono (by
      rintro k hk (h2 | h2 | h2 | h2)
      · omega
      · have : k = w.heap.size + 1 + 1 := h2
        omega
      · have : k = w.heap.size + 1 := h2
        omega
      · have : k = w.heap.size + 1 := h2
        omega)

end Go.Proofs.Ytachppnakmdjhaa
