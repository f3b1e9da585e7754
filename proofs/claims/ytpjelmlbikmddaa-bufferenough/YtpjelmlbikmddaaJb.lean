/- A pool writes a page. -/
import Derived.Test.YtpjelmlbikmddaaJa
import Derived.Great.Ranges
namespace Go.Proofs.Ytpjelmlbikmddaa
open Go.RowKit
set_option maxRecDepth 100000
set_option linter.unusedVariables false

theorem DiskIs.pend_lt {w : World} {b gs cs : Nat} {Cs : Array Value} {pv : Value} {S : List (List UInt8)} {L : List (Nat × List UInt8)} (h : DiskIs w b gs cs Cs pv S L) : ∀ k, pv.ownBlock = some k → k < w.heap.size := by
  intro k hk
  rcases h.pend.2 with ⟨rfl, h0⟩ | ⟨g, cap, cur, rfl, h1⟩
  · exact absurd hk (by simp [Value.ownBlock])
  · simp only [Value.ownBlock] at hk
    cases hk
    exact (Array.getElem?_eq_some_iff.1 h1.2.1).1

set_option maxHeartbeats 2000000 in
theorem bwrite_any {w : World} {b gs cs : Nat} {Cs : Array Value} {pv : Value} {S : List (List UInt8)} {L : List (Nat × List UInt8)} (h : DiskIs w b gs cs Cs pv S L) (hb : L.length ≤ 268435456)
    (p first i : Nat) (h0 : w.cell? ⟨p, 0, none⟩ = some (.pointer (some ⟨b, 0, none⟩))) (h1 : w.cell? ⟨p, 1, none⟩ = some (.int .i64 (first : Int))) (hfc : first + i < S.length) (hS4 : S.length ≤ 4096)
    (l : List UInt8) (hl : l.length = 256) (hpb : p ≠ b) (hpg : pv.ownBlock ≠ some p) :
    Calls Try.prog 36 #[.pointer (some ⟨p, 0, none⟩), .int .i64 (i : Int), .agg (enc l).toArray] w fun e w' => e = .returned (.tuple #[]) ∧ ∃ pv', DiskIs w' b gs cs Cs pv' S (L ++ [(first + i, l)]) ∧ (pv'.ownBlock = pv.ownBlock ∨ ∃ k, pv'.ownBlock = some k ∧ w.heap.size ≤ k) ∧ Fr w w' (fun k => k = b ∨ pv.ownBlock = some k) := by
  have HD := hide h
  have hlt : pv.ownBlock ≠ some w.heap.size := fun e => by have := h.pend_lt _ e; omega
  have wk : IntKind.i64.wrap ((first : Int) + (i : Int)) = (first : Int) + (i : Int) := by rw [IntKind.wrap_i64]; omega
  have hpl : p < w.heap.size := World.block_lt_of_cell? w _ h0
  have hSx : ∀ V, Fr w V (fun k => k = b ∨ pv.ownBlock = some k) → V.cell? ⟨p, 0, none⟩ = some (.pointer (some ⟨b, 0, none⟩)) ∧ V.cell? ⟨p, 1, none⟩ = some (.int .i64 (first : Int)) := fun V hV => by
    have hbk := hV.block p hpl (fun h => by rcases h with h | h; exact hpb h; exact hpg h)
    exact ⟨by rw [World.cell?_of_block (w := w) hbk]; exact h0, by rw [World.cell?_of_block (w := w) hbk]; exact h1⟩
  clear h h0 h1
  go_enter Try.func36, Try.ntmps36
  go_wp2_with (refine Go.Great.wpList_boxTo rfl 70 (.tmp 2) rfl (some 5) rfl w.heap.size rfl (enc l).toArray rfl ?_; generalize hW1 : w.alloc (.cells (enc l).toArray 70) = W1)
  have FA : Fr w W1 (fun _ => False) := by rw [← hW1]; exact Fr.alloc _ _ _
  have hr1 : W1.rangeAt w.heap.size 0 (enc l) := fun j v hv => by
    rw [← hW1, cell_of_row _ _ _ _ _ _ (heap_alloc_new w _)]; simpa using hv
  have hs1 : W1.heap.size = w.heap.size + 1 := by rw [← hW1]; simp
  have FD : Fr w W1.drew (fun _ => False) := (FA.trans (Fr.drew W1 (fun _ => False))).mono (by simp)
  have hS := hSx _ (FD.mono (by intro k _ h; exact h.elim))
  clear hW1
  go_wp2_with fail
  refine wp_region_K (fun _ => true) (fun V => V.cell? ⟨p, 0, none⟩ = some (.pointer (some ⟨b, 0, none⟩)) ∧ V.cell? ⟨p, 1, none⟩ = some (.int .i64 (first : Int))) (by kernel_rfl) ?_
  refine wpAnyK_takeTo 0 (some 6) (.pointer (some ⟨p, 0, none⟩)) [] rfl rfl (by kernel_rfl) (by kernel_rfl) (by kernel_rfl) (by kernel_rfl) (fun _ _ _ h => h) hS (Or.inl ⟨rfl, fun w1 hw1 => by go_simp⟩) ?_
  simp only [Act.put, List.setIfInBounds_toArray, List.set_cons_zero, List.set_cons_succ]
  refine wpAnyK_takeTo 1 (some 7) (.pointer (some ⟨p, 0, none⟩)) [] rfl rfl (by kernel_rfl) (by kernel_rfl) (by kernel_rfl) (by kernel_rfl) (fun _ _ _ h => h) hS (Or.inl ⟨rfl, fun w1 hw1 => by go_simp⟩) ?_
  simp only [Act.put, List.setIfInBounds_toArray, List.set_cons_zero, List.set_cons_succ]
  refine wpAnyK_takeTo 2 (some 8) (.pointer (some ⟨p, 0, none⟩)) [] rfl rfl (by kernel_rfl) (by kernel_rfl) (by kernel_rfl) (by kernel_rfl) (fun _ _ _ h => h) hS (Or.inl ⟨rfl, fun w1 hw1 => by go_simp⟩) ?_
  simp only [Act.put, List.setIfInBounds_toArray, List.set_cons_zero, List.set_cons_succ]
  refine wpAnyK_takeTo 3 (some 9) (.pointer (some ⟨b, 0, none⟩)) [] rfl rfl (by kernel_rfl) (by kernel_rfl) (by kernel_rfl) (by kernel_rfl) (fun _ _ _ h => h) hS (Or.inl ⟨rfl, fun w1 hw1 => by obtain ⟨x0, x1⟩ := hw1; go_simp⟩) ?_
  simp only [Act.put, List.setIfInBounds_toArray, List.set_cons_zero, List.set_cons_succ]
  refine wpAnyK_takeTo 4 (some 10) (.pointer (some ⟨p, 0, none⟩)) [] rfl rfl (by kernel_rfl) (by kernel_rfl) (by kernel_rfl) (by kernel_rfl) (fun _ _ _ h => h) hS (Or.inl ⟨rfl, fun w1 hw1 => by go_simp⟩) ?_
  simp only [Act.put, List.setIfInBounds_toArray, List.set_cons_zero, List.set_cons_succ]
  refine wpAnyK_takeTo 5 (some 11) (.pointer (some ⟨p, 0, none⟩)) [] rfl rfl (by kernel_rfl) (by kernel_rfl) (by kernel_rfl) (by kernel_rfl) (fun _ _ _ h => h) hS (Or.inl ⟨rfl, fun w1 hw1 => by go_simp⟩) ?_
  simp only [Act.put, List.setIfInBounds_toArray, List.set_cons_zero, List.set_cons_succ]
  refine wpAnyK_takeTo 6 (some 12) (.pointer (some ⟨p, 1, none⟩)) [] rfl rfl (by kernel_rfl) (by kernel_rfl) (by kernel_rfl) (by kernel_rfl) (fun _ _ _ h => h) hS (Or.inl ⟨rfl, fun w1 hw1 => by go_simp⟩) ?_
  simp only [Act.put, List.setIfInBounds_toArray, List.set_cons_zero, List.set_cons_succ]
  refine wpAnyK_takeTo 7 (some 13) (.int .i64 (first : Int)) [] rfl rfl (by kernel_rfl) (by kernel_rfl) (by kernel_rfl) (by kernel_rfl) (fun _ _ _ h => h) hS (Or.inl ⟨rfl, fun w1 hw1 => by obtain ⟨x0, x1⟩ := hw1; go_simp⟩) ?_
  simp only [Act.put, List.setIfInBounds_toArray, List.set_cons_zero, List.set_cons_succ]
  refine wpAnyK_takeTo 8 (some 14) (.int .i64 (i : Int)) [] rfl rfl (by kernel_rfl) (by kernel_rfl) (by kernel_rfl) (by kernel_rfl) (fun _ _ _ h => h) hS (Or.inl ⟨rfl, fun w1 hw1 => by go_simp⟩) ?_
  simp only [Act.put, List.setIfInBounds_toArray, List.set_cons_zero, List.set_cons_succ]
  refine wpAnyK_takeTo 9 (some 15) (.int .i64 ((first : Int) + (i : Int))) [] rfl rfl (by kernel_rfl) (by kernel_rfl) (by kernel_rfl) (by kernel_rfl) (fun _ _ _ h => h) hS (Or.inl ⟨rfl, fun w1 hw1 => by go_simp; first | done | simp only [wk]⟩) ?_
  simp only [Act.put, List.setIfInBounds_toArray, List.set_cons_zero, List.set_cons_succ]
  refine wpAnyK_takeTo 10 (some 16) (.slice (some ⟨w.heap.size, 0, none⟩) 256 256) [] rfl rfl (by kernel_rfl) (by kernel_rfl) (by kernel_rfl) (by kernel_rfl) (fun _ _ _ h => h) hS (Or.inl ⟨rfl, fun w1 hw1 => by go_simp⟩) ?_
  simp only [Act.put, List.setIfInBounds_toArray, List.set_cons_zero, List.set_cons_succ]
  refine wpAnyK_one (i := 11) (by kernel_rfl) rfl rfl ?_
  refine wp_call_to (some 17) rfl 52 #[.pointer (some ⟨b, 0, none⟩), .int .i64 ((first : Int) + (i : Int)), .slice (some ⟨w.heap.size, 0, none⟩) 256 256] (by go_simp) (write_any (HD.out.kept FD) _ (by omega) (by omega) w.heap.size 0 256 l hl (rangeAt_fr hr1 (Fr.drew W1 (fun _ => False)) (fun h => h)) hlt hb) ?_
  rintro x V1 ⟨rfl, pv', hd', hf', q1⟩
  have hS := hSx V1 ((FD.trans q1).mono (by intro k _ h1; rcases h1 with h1 | h1; exact h1.elim; exact h1))
  refine ⟨_, rfl, fun _ => hS, ?_⟩
  simp only [Act.put, List.setIfInBounds_toArray, List.set_cons_zero, List.set_cons_succ]
  refine wpAnyK_done (by kernel_rfl) ?_ _
  clear hS hSx
  go_wp2
  go_end0
  refine ⟨rfl, pv', ?_, ?_, (FD.trans q1).mono (by intro k _ h1; rcases h1 with h1 | h1; exact h1.elim; exact h1)⟩
  · rw [show ((first : Int) + (i : Int)).toNat = first + i by omega] at hd'
    exact hd'
  · rcases hf' with h2 | ⟨k, h2, h3⟩
    · exact .inl h2
    · exact .inr ⟨k, h2, by have := FD.size; omega⟩
end Go.Proofs.Ytpjelmlbikmddaa

/- A frame as a value; Frames. -/
namespace Go.Proofs.Ytpjelmlbikmddaa
open Go.RowKit
set_option maxRecDepth 100000
set_option linter.unusedVariables false

/-- A frame's cells. -/
def fcells (F : Frm) : List Value := .int .i64 F.page :: (enc F.data ++ [.int .i64 (F.pins : Int), .bool F.used, .bool F.changed, .int .i64 F.mark])
def blankF : Frm := ⟨0, blank, 0, false, false, 0⟩
theorem length_fcells (F : Frm) (h : F.data.length = 256) : (fcells F).length = 261 := by simp [fcells, length_enc, h]
theorem fcells_oneCell (F : Frm) : ∀ v ∈ fcells F, v.oneCell' = true := by
  intro v hv
  simp only [fcells, List.mem_cons, List.mem_append, List.not_mem_nil, or_false] at hv
  rcases hv with rfl | hv | rfl | rfl | rfl | rfl
  · rfl
  · exact enc_oneCell _ v hv
  all_goals rfl
theorem fcells_at (F : Frm) (h : F.data.length = 256) (k : Nat) : (fcells F)[257 + k]? = [Value.int .i64 (F.pins : Int), .bool F.used, .bool F.changed, .int .i64 F.mark][k]? := by
  rw [fcells, show 257 + k = (256 + k) + 1 by omega, List.getElem?_cons_succ, List.getElem?_append_right (by rw [length_enc, h]; omega), length_enc, h]
  congr 1
  omega
theorem FrAt.cells {w : World} {g o : Nat} {F : Frm} (h : FrAt w g o F) : w.rangeAt g o (fcells F) := fun j v hv => by
  rcases Nat.lt_or_ge j 1 with h1 | h1
  · obtain rfl : j = 0 := by omega
    have e : v = .int .i64 F.page := by simpa [fcells] using hv.symm
    rw [e]; exact h.page
  · rcases Nat.lt_or_ge j 257 with h2 | h2
    · obtain ⟨k, rfl⟩ : ∃ k, j = k + 1 := ⟨j - 1, by omega⟩
      have e : (enc F.data)[k]? = some v := by
        rw [fcells, List.getElem?_cons_succ, List.getElem?_append_left (by rw [length_enc, h.len]; omega)] at hv
        exact hv
      have := h.data k v e
      rwa [show o + 1 + k = o + (k + 1) by omega] at this
    · obtain ⟨k, rfl⟩ : ∃ k, j = 257 + k := ⟨j - 257, by omega⟩
      rw [fcells_at F h.len] at hv
      match k, hv with
      | 0, hv => cases hv; exact h.pins
      | 1, hv => cases hv; exact h.used
      | 2, hv => cases hv; exact h.changed
      | 3, hv => cases hv; exact h.mark
theorem frAt_of {w : World} {g o : Nat} {F : Frm} (h : w.rangeAt g o (fcells F)) (hl : F.data.length = 256) (z : ∀ j, w.frozen? ⟨g, j, none⟩ = false) : FrAt w g o F := by
  refine ⟨h 0 _ rfl, fun j v hv => ?_, ?_, ?_, ?_, ?_, hl, z⟩
  · have hj : j < 256 := by
      rcases Nat.lt_or_ge j 256 with h2 | h2
      · exact h2
      · rw [List.getElem?_eq_none (by rw [length_enc, hl]; exact h2)] at hv; exact absurd hv (by simp)
    have := h (j + 1) v (by rw [fcells, List.getElem?_cons_succ, List.getElem?_append_left (by rw [length_enc, hl]; omega)]; exact hv)
    rwa [show o + (j + 1) = o + 1 + j by omega] at this
  · exact h (257 + 0) _ (by rw [fcells_at F hl]; rfl)
  · exact h (257 + 1) _ (by rw [fcells_at F hl]; rfl)
  · exact h (257 + 2) _ (by rw [fcells_at F hl]; rfl)
  · exact h (257 + 3) _ (by rw [fcells_at F hl]; rfl)

theorem info72 : (Try.prog.info? 72).map (·.size) = some 261 := by kernel_rfl
theorem alloc72 (w : World) : (Instr.alloc 72 true (.tuple #[])).run Try.prog w = .ok (.pointer (some ⟨w.heap.size, 0, none⟩)) (w.alloc (.cells (fcells blankF).toArray 72)) := by
  kernel_rfl
theorem wpList_alloc72 {w : World} {ops : Array Oper} {rest : List Oper} {o : Oper} {a : Act} {Q : Exit → Act → World → Prop} (hgd : o.guard = none) (ho : o.op = .alloc 72)
    (h : ∀ W1, Hid (W1 = w.alloc (.cells (fcells blankF).toArray 72)) → wpList Try.prog ops Q rest (a.put o.dst (.pointer (some ⟨w.heap.size, 0, none⟩))) W1) : wpList Try.prog ops Q (o :: rest) a w :=
  wpList_plain hgd fun _ hK => by
    unfold Oper.wp execOp
    simp only [ho, Sem.run_bind, alloc72, Result.andThen_ok]
    exact hK _ _ (h _ rfl)

theorem full3 : ∃ i, Try.prog.info? 3 = some i ∧ i.zero = some (.int .i64 0) ∧ i.size = 1 ∧ i.bytes = 8 := by
  have h0 : (Try.prog.info? 3).isSome = true := by kernel_rfl
  have h1 : (Try.prog.info? 3).bind (·.zero) = some (.int .i64 0) := by kernel_rfl
  have h2 : (Try.prog.info? 3).map (·.size) = some 1 := by kernel_rfl
  have h3 : (Try.prog.info? 3).map (·.bytes) = some 8 := by kernel_rfl
  obtain ⟨i, hi⟩ := Option.isSome_iff_exists.1 h0
  rw [hi] at h1 h2 h3
  exact ⟨i, hi, h1, Option.some.inj h2, Option.some.inj h3⟩
theorem run_makeI (n : Nat) (h : n ≤ 4096) (w : World) : (Instr.makeSlice 38 (.int .i64 (n : Int)) (.int .i64 (n : Int))).run Try.prog w = .ok (.slice (some ⟨w.heap.size, 0, none⟩) n n) (w.alloc (.cells (List.replicate n (Value.int .i64 0)).toArray 3)) := by
  obtain ⟨i, hi, hzz, hs5, hby⟩ := full3
  have := run_make (P := Try.prog) w 38 3 i _ Try.underlying38 hi hzz .i64 .i64 n n (by omega) (by omega) (by rw [hby]; omega) (by omega)
  rw [this, hs5]
  congr 3
  apply Array.ext'
  simp [madeCells, Value.cells, Nat.mod_one]
  rw [List.map_const']
  simp

/-- The first pages of the frames stand in a new row. -/
structure PagesIn (w wr : World) (L : List Frm) (k : Nat) : Prop where
  fr : Fr w wr (fun _ => False)
  there : ∀ j, j < L.length → ∃ v, wr.cell? ⟨w.heap.size, j, none⟩ = some v
  z : ∀ j, wr.frozen? ⟨w.heap.size, j, none⟩ = false
  got : ∀ (j : Nat) F, j < k → L[j]? = some F → wr.cell? ⟨w.heap.size, j, none⟩ = some (.int .i64 F.page)

theorem PagesIn.next {w wr W2 : World} {L : List Frm} {k : Nat} {F : Frm} (h : PagesIn w wr L k) (FW : Fr wr W2 (fun _ => False)) (hpw : w.heap.size < wr.heap.size) (hk : L[k]? = some F) :
    PagesIn w (W2.setCell ⟨w.heap.size, k, none⟩ (.int .i64 F.page)) L (k + 1) := by
  have hb := FW.block _ hpw (fun h => h)
  have hkl : k < L.length := by
    rcases Nat.lt_or_ge k L.length with h2 | h2
    · exact h2
    · rw [List.getElem?_eq_none h2] at hk; exact absurd hk (by simp)
  have hsame : (W2.setCell ⟨w.heap.size, k, none⟩ (.int .i64 F.page)).cell? ⟨w.heap.size, k, none⟩ = some (.int .i64 F.page) := by
    obtain ⟨v, hv⟩ := h.there k hkl
    exact World.cell?_setCell_same _ _ _ (by rw [World.cell?_of_block (w := wr) hb]; exact hv)
  refine ⟨((h.fr.trans FW).trans (Fr.setCell W2 ⟨w.heap.size, k, none⟩ (.int .i64 F.page))).mono (by intro q hq h1; rcases h1 with (h1 | h1) | h1; exact h1; exact h1; have h2 : q = w.heap.size := h1; omega), fun j hj => ?_, fun j => ?_, fun j G hj hG => ?_⟩
  · by_cases e : j = k
    · subst e; exact ⟨_, hsame⟩
    · obtain ⟨v, hv⟩ := h.there j hj
      refine ⟨v, ?_⟩
      rw [World.cell?_setCell_other _ _ _ _ (fun hh => by injection hh; omega), World.cell?_of_block (w := wr) hb]; exact hv
  · rw [World.frozen?_setCell, World.frozen?_of_block (w := wr) hb]; exact h.z j
  · by_cases e : j = k
    · subst e
      rw [hk] at hG; cases hG; exact hsame
    · rw [World.cell?_setCell_other _ _ _ _ (fun hh => by injection hh; omega), World.cell?_of_block (w := wr) hb]; exact h.got j G (by omega) hG

set_option maxHeartbeats 2000000 in
theorem frames_any {w : World} {p b first count gf c hand : Nat} {lv : Value} {L : List Frm} (h : PoolAt w p b first count gf L.length c hand lv) (hF : FrsAt w gf L) (hL : L.length ≤ 4096) (hgf : gf < w.heap.size) :
    Calls Try.prog 12 #[.pointer (some ⟨p, 0, none⟩)] w fun e w' => e = .returned (.slice (some ⟨w.heap.size, 0, none⟩) L.length L.length) ∧ PagesIn w w' L L.length := by
  have c3 := h.c3
  have HP := hide h
  have HF := hide hF
  have hmk := run_makeI L.length hL w
  have hpl := World.block_lt_of_cell? w _ c3
  obtain ⟨W0, hW0⟩ : ∃ W0, W0 = w.alloc (.cells (List.replicate L.length (Value.int .i64 0)).toArray 3) := ⟨_, rfl⟩
  have FA : Fr w W0 (fun _ => False) := by rw [hW0]; exact Fr.alloc _ _ _
  have d3 : W0.cell? ⟨p, 3, none⟩ = some (.slice (some ⟨gf, 0, none⟩) L.length c) := (h.fr FA (fun h => h)).c3
  have hI0 : PagesIn w W0 L 0 := by
    have hb : W0.heap[w.heap.size]? = some (.cells (List.replicate L.length (Value.int .i64 0)).toArray 3 (0, 0)) := by rw [hW0]; exact heap_alloc_new w _
    refine ⟨FA, fun j hj => ⟨.int .i64 0, ?_⟩, fun j => ?_, fun j F hj => absurd hj (by omega)⟩
    · rw [cell_of_row _ _ _ _ _ _ hb]; simp [hj]
    · simp [World.frozen?, hb]
  rw [← hW0] at hmk
  have HI0 := hide hI0
  clear hI0 hW0 h hF FA
  go_enter Try.func12, Try.ntmps12
  go_wp2
  go_loopw [17] (fun i wr => ∃ k : Nat, k ≤ L.length ∧ i = .int .i64 (k : Int) ∧ PagesIn w wr L k) (fun i _ => L.length - (intOf i).toNat)
  case atStart => exact ⟨0, Nat.zero_le _, rfl, HI0.out⟩
  case round =>
    obtain ⟨k, hk, rfl, hin⟩ := hrel
    rcases Nat.lt_or_ge k L.length with hlt | hge
    · obtain ⟨F, hkF⟩ : ∃ F, L[k]? = some F := ⟨_, List.getElem?_eq_getElem hlt⟩
      have hA := (HF.out.fr hin.fr (fun h => h)) k F hkF
      have HR := hide hA.cells
      have hgr : gf < wr.heap.size := Nat.lt_of_lt_of_le hgf hin.fr.size
      have he := length_fcells F hA.len
      have heb : (fcells blankF).length = 261 := length_fcells blankF length_blank
      have HI := hide (by rw [he]; exact info72 : (Try.prog.info? 72).map (·.size) = some (fcells F).length)
      have HI2 := hide (by rw [List.size_toArray, he]; exact info72 : (Try.prog.info? 72).map (·.size) = some (fcells F).toArray.size)
      have HL2 := hide (by rw [List.size_toArray, List.size_toArray, he, heb] : (fcells blankF).toArray.size = (fcells F).toArray.size)
      have hlen := hA.len
      obtain ⟨v0, hv0⟩ := hin.there k hlt
      have hpw : w.heap.size < wr.heap.size := World.block_lt_of_cell? wr _ hv0
      have HIN := hide hin
      have HK := hide hkF
      clear hA hin hkF
      go_wp2_with (first
        | (refine wpList_load_mid rfl 72 (.tmp 20) rfl gf (k * 261) rfl (fcells F) _ HR.out Try.underlying72 rfl HI.out ?_)
        | (refine wpList_alloc72 rfl rfl ?_; intro W1 HW1; have HG := hide (latest_block HW1.out))
        | (refine wpList_store_row rfl 72 (.tmp 5) (.tmp 21) rfl wr.heap.size (fcells F).toArray rfl rfl 72 _ HG.out HI2.out HL2.out (all_oneCell_toArray (fcells_oneCell _)) ?_
           obtain ⟨W2, hW2⟩ : ∃ W2, W2 = W1.setRow wr.heap.size (fcells F).toArray := ⟨_, rfl⟩
           have FW : Fr wr W2 (fun _ => False) := by
             rw [hW2, HW1.out]
             exact ((Fr.alloc wr _ (fun _ => False)).trans (Fr.setRow _ wr.heap.size _)).mono (by intro q hq h1; rcases h1 with h1 | h1; exact h1; omega)
           have hb2 : W2.heap[wr.heap.size]? = some (.cells (fcells F).toArray 72 (0, 0)) := by rw [hW2]; exact setRow_heap _ _ _ _ _ _ HG.out
           have p0 : W2.cell? ⟨wr.heap.size, 0, none⟩ = some (.int .i64 F.page) := by rw [cell_of_row _ _ _ _ _ _ hb2]; rfl
           have v2 : W2.cell? ⟨w.heap.size, k, none⟩ = some v0 := by rw [World.cell?_of_block (w := wr) (FW.block _ hpw (fun h => h))]; exact hv0
           have z2 : W2.frozen? ⟨w.heap.size, k, none⟩ = false := by rw [World.frozen?_of_block (w := wr) (FW.block _ hpw (fun h => h))]; exact HIN.out.z k
           rw [← hW2]
           clear hW2 hb2))
      go_roundw
      case rel => exact ⟨k + 1, by omega, by go_num, HIN.out.next FW hpw HK.out⟩
      case measure => simp [intOf]; omega
    · have e : k = L.length := by omega
      subst e
      go_wp2
      go_ret
      exact ⟨rfl, hin⟩
end Go.Proofs.Ytpjelmlbikmddaa
