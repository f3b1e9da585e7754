/- lay: the first bytes of a write are brought to its sector: the walk. -/
import Derived.Test.YtpjelmlbikmddaaDl
namespace Go.Proofs.Ytpjelmlbikmddaa
open Go.RowKit
set_option maxRecDepth 100000

theorem wp_copy_to {P : Program} {o : Oper} {a : Act} {w : World} {K : Act → World → Prop} {Q : Exit → Act → World → Prop} (s x : Operand) (t1 t2 : TypeId)
    (ho : o.op = .call { callee := .builtin .copy, args := #[s, x], argTypes := #[t1, t2] }) (d : Option Tmp) (hd : o.dst = d) (ty : TypeId) (hty : o.type = ty) (v1 v2 : Value) (hs : a.eval s = v1) (hx : a.eval x = v2)
    (v' : Value) (w' : World) (hr : (Builtin.copy_ #[t1, t2] ty #[v1, v2]).run P w = .ok v' w') (hK : K (a.put d v') w') : o.wp P a w K Q := by
  subst hd
  subst hty
  unfold Oper.wp execOp
  simp only [ho, resolve, invoke, builtin, Sem.run_bind, Sem.run_pure, Result.andThen_ok, List.map_toArray, List.map_cons, List.map_nil, hs, hx, hr]
  exact hK

set_option maxRecDepth 100000 in
set_option maxHeartbeats 1000000 in
theorem lay_any {w : World} {b gs cs : Nat} {Cs : Array Value} {pv : Value} {S : List (List UInt8)} {L : List (Nat × List UInt8)} (h : DiskIs w b gs cs Cs pv S L)
    (n : Nat) (hn : n < S.length) (l : List UInt8) (hl : l.length = 256) (v : Int) (c : Nat) (hv : v = c) (hc : c ≤ 256) :
    Calls Try.prog 38 #[.pointer (some ⟨b, 0, none⟩), .agg (wcells n l).toArray, .int .i64 v] w fun e w' => e = .returned (.tuple #[]) ∧
      ∃ Cs', DiskIs w' b gs cs Cs' pv (layS S n l c) L ∧ Fr w w' (fun k => k = gs) := by
  subst hv
  have c0 := h.cell0
  have hn0 : (0 : Int) ≤ n := by omega
  have hn1 : (n : Int) < (S.length : Int) := by omega
  have hc0 : (0 : Int) ≤ c := by omega
  have hc1 : (c : Int) ≤ 256 := by omega
  go_enter Try.func38, Try.ntmps38
  go_wp2
  obtain ⟨W1, hW1⟩ : ∃ W1, W1 = w.alloc (.cells (wcells n l).toArray 93) := ⟨_, rfl⟩
  have F1 : Fr w W1 (fun _ => False) := by subst hW1; exact Fr.alloc _ _ _
  have hb1 : W1.heap[w.heap.size]? = some (.cells (wcells n l).toArray 93 (0, 0)) := by subst hW1; exact heap_alloc_new w _
  rw [← hW1]
  clear hW1
  have d0 : W1.cell? ⟨b, 0, none⟩ = some (.slice (some ⟨gs, 0, none⟩) S.length cs) := by
    rw [World.cell?_of_block (w := w) (F1.block b (World.block_lt_of_cell? w _ c0) id)]; exact c0
  have d1 : W1.cell? ⟨w.heap.size, 0, none⟩ = some (.int .i64 n) := by
    rw [cell_of_row _ _ _ _ _ _ hb1]; rfl
  refine wp_region_K (fun _ => true) (fun w' => w'.cell? ⟨b, 0, none⟩ = some (.slice (some ⟨gs, 0, none⟩) S.length cs) ∧ w'.cell? ⟨w.heap.size, 0, none⟩ = some (.int .i64 n)) (by kernel_rfl) ?_
  have hS : W1.drew.cell? ⟨b, 0, none⟩ = some (.slice (some ⟨gs, 0, none⟩) S.length cs) ∧ W1.drew.cell? ⟨w.heap.size, 0, none⟩ = some (.int .i64 n) := ⟨by simpa using d0, by simpa using d1⟩
  refine wpAnyK_takeTo 0 (some 6) (.pointer (some ⟨b, 0, none⟩)) [] rfl rfl (by kernel_rfl) (by kernel_rfl) (by kernel_rfl) (by kernel_rfl) (fun _ _ _ h => h) hS (Or.inl ⟨rfl, fun w1 hw1 => by go_simp⟩) ?_
  simp only [Act.put, List.setIfInBounds_toArray, List.set_cons_zero, List.set_cons_succ]
  refine wpAnyK_takeTo 1 (some 7) (.pointer (some ⟨b, 0, none⟩)) [] rfl rfl (by kernel_rfl) (by kernel_rfl) (by kernel_rfl) (by kernel_rfl) (fun _ _ _ h => h) hS (Or.inl ⟨rfl, fun w1 hw1 => by go_simp⟩) ?_
  simp only [Act.put, List.setIfInBounds_toArray, List.set_cons_zero, List.set_cons_succ]
  refine wpAnyK_takeTo 2 (some 8) (.pointer (some ⟨b, 0, none⟩)) [] rfl rfl (by kernel_rfl) (by kernel_rfl) (by kernel_rfl) (by kernel_rfl) (fun _ _ _ h => h) hS (Or.inl ⟨rfl, fun w1 hw1 => by go_simp⟩) ?_
  simp only [Act.put, List.setIfInBounds_toArray, List.set_cons_zero, List.set_cons_succ]
  refine wpAnyK_takeTo 3 (some 9) (.slice (some ⟨gs, 0, none⟩) S.length cs) [] rfl rfl (by kernel_rfl) (by kernel_rfl) (by kernel_rfl) (by kernel_rfl) (fun _ _ _ h => h) hS (Or.inl ⟨rfl, fun w1 hw1 => by simp only [] at hw1; go_simp⟩) ?_
  simp only [Act.put, List.setIfInBounds_toArray, List.set_cons_zero, List.set_cons_succ]
  refine wpAnyK_takeTo 4 (some 10) (.pointer (some ⟨w.heap.size, 0, none⟩)) [] rfl rfl (by kernel_rfl) (by kernel_rfl) (by kernel_rfl) (by kernel_rfl) (fun _ _ _ h => h) hS (Or.inl ⟨rfl, fun w1 hw1 => by go_simp⟩) ?_
  simp only [Act.put, List.setIfInBounds_toArray, List.set_cons_zero, List.set_cons_succ]
  refine wpAnyK_takeTo 5 (some 11) (.int .i64 n) [] rfl rfl (by kernel_rfl) (by kernel_rfl) (by kernel_rfl) (by kernel_rfl) (fun _ _ _ h => h) hS (Or.inl ⟨rfl, fun w1 hw1 => by simp only [] at hw1; go_simp⟩) ?_
  simp only [Act.put, List.setIfInBounds_toArray, List.set_cons_zero, List.set_cons_succ]
  refine wpAnyK_takeTo 6 (some 12) (.pointer (some ⟨gs, n * 256, none⟩)) [] rfl rfl (by kernel_rfl) (by kernel_rfl) (by kernel_rfl) (by kernel_rfl) (fun _ _ _ h => h) hS (Or.inl ⟨rfl, fun w1 hw1 => by go_simp⟩) ?_
  simp only [Act.put, List.setIfInBounds_toArray, List.set_cons_zero, List.set_cons_succ]
  refine wpAnyK_takeTo 7 (some 13) (.int .i64 c) [] rfl rfl (by kernel_rfl) (by kernel_rfl) (by kernel_rfl) (by kernel_rfl) (fun _ _ _ h => h) hS (Or.inl ⟨rfl, fun w1 hw1 => by go_simp⟩) ?_
  simp only [Act.put, List.setIfInBounds_toArray, List.set_cons_zero, List.set_cons_succ]
  refine wpAnyK_takeTo 8 (some 14) (.slice (some ⟨gs, n * 256, none⟩) c 256) [] rfl rfl (by kernel_rfl) (by kernel_rfl) (by kernel_rfl) (by kernel_rfl) (fun _ _ _ h => h) hS (Or.inl ⟨rfl, fun w1 hw1 => by go_simp⟩) ?_
  simp only [Act.put, List.setIfInBounds_toArray, List.set_cons_zero, List.set_cons_succ]
  refine wpAnyK_takeTo 9 (some 15) (.pointer (some ⟨w.heap.size, 1, none⟩)) [] rfl rfl (by kernel_rfl) (by kernel_rfl) (by kernel_rfl) (by kernel_rfl) (fun _ _ _ h => h) hS (Or.inl ⟨rfl, fun w1 hw1 => by go_simp⟩) ?_
  simp only [Act.put, List.setIfInBounds_toArray, List.set_cons_zero, List.set_cons_succ]
  refine wpAnyK_takeTo 10 (some 16) (.int .i64 c) [] rfl rfl (by kernel_rfl) (by kernel_rfl) (by kernel_rfl) (by kernel_rfl) (fun _ _ _ h => h) hS (Or.inl ⟨rfl, fun w1 hw1 => by go_simp⟩) ?_
  simp only [Act.put, List.setIfInBounds_toArray, List.set_cons_zero, List.set_cons_succ]
  refine wpAnyK_takeTo 11 (some 17) (.slice (some ⟨w.heap.size, 1, none⟩) c 256) [] rfl rfl (by kernel_rfl) (by kernel_rfl) (by kernel_rfl) (by kernel_rfl) (fun _ _ _ h => h) hS (Or.inl ⟨rfl, fun w1 hw1 => by go_simp⟩) ?_
  simp only [Act.put, List.setIfInBounds_toArray, List.set_cons_zero, List.set_cons_succ]
  have hgs : gs < w.heap.size := (Array.getElem?_eq_some_iff.1 h.secs).1
  have hbs : b < w.heap.size := (Array.getElem?_eq_some_iff.1 h.here).1
  have hg1 : W1.drew.heap[gs]? = some (.cells Cs 91 (0, 0)) := by
    show W1.heap[gs]? = _
    rw [F1.block gs hgs id]; exact h.secs
  have hlc : (enc (l.take c)).length = c := by rw [length_enc, List.length_take, hl]; omega
  have hCl : S.length * 256 ≤ Cs.size := by rw [h.size]; have := h.le; omega
  have hrun := run_copy_row (P := Try.prog) W1.drew 45 45 3 5 gs (n * 256) c 256 ⟨w.heap.size, 1, none⟩ c 256 Cs 91 (enc (l.take c)) Try.underlying45 (by kernel_rfl) hg1 (by rw [hlc]; simp)
    (by
      intro j u hu
      rw [Addr.add_mid]
      show W1.cell? _ = _
      rw [cell_of_row _ _ _ _ _ _ hb1]
      rw [← enc_take, List.getElem?_take] at hu
      split at hu
      · rw [Nat.add_comm]; simpa [wcells] using hu
      · cases hu) (by rw [hlc]; omega) (enc_oneCell _)
  have F2 : Fr W1.drew (W1.drew.setRow gs (Cs.toList.take (n * 256) ++ enc (l.take c) ++ Cs.toList.drop (n * 256 + (enc (l.take c)).length)).toArray) (fun k => k = gs) := Fr.setRow _ _ _
  have hg2 := setRow_heap _ _ _ (Cs.toList.take (n * 256) ++ enc (l.take c) ++ Cs.toList.drop (n * 256 + (enc (l.take c)).length)).toArray _ _ hg1
  generalize W1.drew.setRow gs (Cs.toList.take (n * 256) ++ enc (l.take c) ++ Cs.toList.drop (n * 256 + (enc (l.take c)).length)).toArray = W2 at *
  have hne : w.heap.size ≠ gs := by omega
  have hsz1 : w.heap.size < W1.heap.size := World.block_lt_of_cell? W1 _ d1
  have e0 : W2.cell? ⟨b, 0, none⟩ = some (.slice (some ⟨gs, 0, none⟩) S.length cs) := by
    rw [World.cell?_of_block (w := W1.drew) (F2.block b (show b < W1.heap.size by omega) (Ne.symm h.ne1))]; exact hS.1
  have e1 : W2.cell? ⟨w.heap.size, 0, none⟩ = some (.int .i64 n) := by
    rw [World.cell?_of_block (w := W1.drew) (F2.block w.heap.size hsz1 hne)]; exact hS.2
  have F12 : Fr w W2 (fun k => k = gs) := (F1.trans ((Fr.drew W1 (fun _ => False)).trans F2)).mono (by rintro k _ (h2 | h2 | h2); exact h2.elim; exact h2.elim; exact h2)
  refine wpAnyK_one (i := 12) (by kernel_rfl) rfl rfl ?_
  refine wp_copy_to (.tmp 14) (.tmp 17) 45 45 rfl (some 18) rfl 3 rfl _ _ rfl rfl _ W2 hrun ?_
  simp only [Act.put, List.setIfInBounds_toArray, List.set_cons_zero, List.set_cons_succ]
  refine ⟨fun _ => ⟨e0, e1⟩, ?_⟩
  refine wpAnyK_done (by kernel_rfl) ?_ _
  go_wp2
  go_end0
  refine ⟨rfl, _, ⟨?_, hg2, ?_, h.max, ?_, ?_, ?_, h.ne1, h.ne2, h.ne3, layS_lens S h.lens n hn l hl c hc, ?_⟩, F12⟩
  · rw [F12.block b hbs (Ne.symm h.ne1), h.here, layS_length]
  · rw [layS_length]; exact h.le
  · rw [← h.size]
    simp only [List.size_toArray, List.length_append, List.length_take, List.length_drop, Array.length_toList, hlc]
    omega
  · rw [layS_length, List.toList_toArray, List.append_assoc]
    exact layS_flat Cs.toList S h.lens n hn l hl c hc h.take (by simpa using hCl)
  · exact ownsRow_fr h.pend F12 (fun k hk hk2 => h.ne3 (by rw [hk, show k = gs from hk2]))
  · intro p hp; rw [layS_length]; exact h.lenw p hp

end Go.Proofs.Ytpjelmlbikmddaa
