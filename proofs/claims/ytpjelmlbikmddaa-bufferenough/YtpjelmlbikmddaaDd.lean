/- The disk as it lies in memory; a write is taken. -/
import Derived.Test.YtpjelmlbikmddaaDc
import Derived.Test.YtpjelmlbikmddaaDk
import Derived.Test.YtpjelmlbikmddaaDe
namespace Go.Proofs.Ytpjelmlbikmddaa
open Go.RowKit
set_option maxRecDepth 100000

/-- The pending writes' cells. -/
def encW (L : List (Nat × List UInt8)) : List Value := (L.map fun p => wcells p.1 p.2).flatten

theorem encW_append (L M : List (Nat × List UInt8)) : encW (L ++ M) = encW L ++ encW M := by simp [encW]
theorem length_wcells (k : Int) (l : List UInt8) : (wcells k l).length = l.length + 1 := by simp [wcells, length_enc]
theorem wcells_oneCell (k : Int) (l : List UInt8) : ∀ v ∈ wcells k l, v.oneCell' = true := by
  intro v hv
  simp only [wcells, List.mem_cons] at hv
  rcases hv with rfl | hv
  · rfl
  · exact enc_oneCell l v hv

structure DiskIs (w : World) (b gs cs : Nat) (Cs : Array Value) (pv : Value) (S : List (List UInt8)) (L : List (Nat × List UInt8)) : Prop where
  here : w.heap[b]? = some (.cells #[.slice (some ⟨gs, 0, none⟩) S.length cs, pv] 67 (0, 0))
  secs : w.heap[gs]? = some (.cells Cs 91 (0, 0))
  le : S.length ≤ cs
  max : cs ≤ maxLen
  size : Cs.size = cs * 256
  take : Cs.toList.take (S.length * 256) = enc S.flatten
  pend : w.ownsRow 0 93 257 pv L.length (encW L)
  ne1 : gs ≠ b
  ne2 : pv.ownBlock ≠ some b
  ne3 : pv.ownBlock ≠ some gs
  lens : ∀ s ∈ S, s.length = 256
  lenw : ∀ p ∈ L, p.2.length = 256 ∧ p.1 < S.length

theorem DiskIs.cell0 {w : World} {b gs cs : Nat} {Cs : Array Value} {pv : Value} {S : List (List UInt8)} {L : List (Nat × List UInt8)} (h : DiskIs w b gs cs Cs pv S L) :
    w.cell? ⟨b, 0, none⟩ = some (.slice (some ⟨gs, 0, none⟩) S.length cs) := by
  rw [cell_of_row w b 0 _ _ _ h.here]; rfl
theorem DiskIs.cell1 {w : World} {b gs cs : Nat} {Cs : Array Value} {pv : Value} {S : List (List UInt8)} {L : List (Nat × List UInt8)} (h : DiskIs w b gs cs Cs pv S L) :
    w.cell? ⟨b, 1, none⟩ = some pv := by
  rw [cell_of_row w b 1 _ _ _ h.here]; rfl
theorem DiskIs.frozen {w : World} {b gs cs : Nat} {Cs : Array Value} {pv : Value} {S : List (List UInt8)} {L : List (Nat × List UInt8)} (h : DiskIs w b gs cs Cs pv S L) (j : Nat) :
    w.frozen? ⟨b, j, none⟩ = false := by
  simp [World.frozen?, h.here]

theorem has_yes (b : Nat) (a : Option Addr) (n c : Nat) (k : Int) (w : World) (hc : w.cell? ⟨b, 0, none⟩ = some (.slice a n c)) (h : 0 ≤ k ∧ k < (n : Int)) :
    Calls Try.prog 39 #[.pointer (some ⟨b, 0, none⟩), .int .i64 k] w fun e w' => e = .returned (.bool true) ∧ w' = w := by
  have := has_any b a n c k w hc
  rwa [decide_eq_true h] at this
theorem has_no (b : Nat) (a : Option Addr) (n c : Nat) (k : Int) (w : World) (hc : w.cell? ⟨b, 0, none⟩ = some (.slice a n c)) (h : ¬ (0 ≤ k ∧ k < (n : Int))) :
    Calls Try.prog 39 #[.pointer (some ⟨b, 0, none⟩), .int .i64 k] w fun e w' => e = .returned (.bool false) ∧ w' = w := by
  have := has_any b a n c k w hc
  rwa [decide_eq_false h] at this

theorem info67 : (Try.prog.info? 91).map (·.size) = some 256 := by kernel_rfl

set_option maxHeartbeats 400000 in
theorem write_range (b : Nat) (a : Option Addr) (m c : Nat) (n : Int) (d : Value) (w : World) (hc : w.cell? ⟨b, 0, none⟩ = some (.slice a m c)) (h : ¬ (0 ≤ n ∧ n < (m : Int))) :
    Calls Try.prog 52 #[.pointer (some ⟨b, 0, none⟩), .int .i64 n, d] w fun e w' => e = .returned (.int .i64 1) ∧ w' = w := by
  have H : Hid (¬ (0 ≤ n ∧ n < (m : Int))) := h
  clear h
  go_enter Try.func52, Try.ntmps52
  go_wp2_with (go_at_call 39; refine (has_no _ _ _ _ _ _ hc H.out).mono ?_; rintro e w' ⟨rfl, rfl⟩)
  go_ret
  exact ⟨rfl, rfl⟩

set_option maxHeartbeats 400000 in
theorem write_length (b : Nat) (a : Option Addr) (m c : Nat) (n : Int) (da : Option Addr) (dl dc : Nat) (w : World) (hc : w.cell? ⟨b, 0, none⟩ = some (.slice a m c)) (h0 : 0 ≤ n) (h1 : n < (m : Int)) (hl : ((dl : Int) != 256) = true) :
    Calls Try.prog 52 #[.pointer (some ⟨b, 0, none⟩), .int .i64 n, .slice da dl dc] w fun e w' => e = .returned (.int .i64 10) ∧ w' = w := by
  go_enter Try.func52, Try.ntmps52
  go_wp2_with (go_at_call 39; refine (has_yes _ _ _ _ _ _ hc ⟨h0, h1⟩).mono ?_; rintro e w' ⟨rfl, rfl⟩)
  go_ret
  exact ⟨rfl, rfl⟩

set_option maxRecDepth 100000 in
set_option maxHeartbeats 400000 in
theorem write_any {w : World} {b gs cs : Nat} {Cs : Array Value} {pv : Value} {S : List (List UInt8)} {L : List (Nat × List UInt8)} (h : DiskIs w b gs cs Cs pv S L)
    (n : Int) (h0 : 0 ≤ n) (h1 : n < (S.length : Int)) (g off c : Nat) (l : List UInt8) (hl : l.length = 256) (hr : w.rangeAt g off (enc l)) (hg : pv.ownBlock ≠ some g) (hb : L.length ≤ 268435456) :
    Calls Try.prog 52 #[.pointer (some ⟨b, 0, none⟩), .int .i64 n, .slice (some ⟨g, off, none⟩) 256 c] w fun e w' => e = .returned (.int .i64 0) ∧
      ∃ pv', DiskIs w' b gs cs Cs pv' S (L ++ [(n.toNat, l)]) ∧ (pv'.ownBlock = pv.ownBlock ∨ ∃ k, pv'.ownBlock = some k ∧ w.heap.size ≤ k) ∧ Fr w w' (fun k => k = b ∨ pv.ownBlock = some k) := by
  have c0 := h.cell0
  have c1 := h.cell1
  have ra := fun w1 => run_arrayAt (P := Try.prog) (w := w1) 91 5 256 (some ⟨g, off, none⟩) 256 c Try.underlying91 (Nat.le_refl _)
  go_enter Try.func52, Try.ntmps52
  go_wp2_with (go_at_call 39; refine (has_yes _ _ _ _ _ _ c0 ⟨h0, h1⟩).mono ?_; rintro e w' ⟨rfl, rfl⟩)
  refine wp_region_K (fun i => !(i == 14)) (fun w' => w'.cell? ⟨b, 1, none⟩ = some pv ∧ w'.rangeAt g off (enc l)) (by kernel_rfl) ?_
  have hS : ∀ W : World, W = w'.drew → W.cell? ⟨b, 1, none⟩ = some pv ∧ W.rangeAt g off (enc l) := by
    intro W hW; subst hW; exact ⟨by simpa using c1, by simpa using hr⟩
  refine wpAnyK_takeTo 0 (some 16) (.pointer (some ⟨b, 0, none⟩)) [12, 13, 14] rfl rfl (by kernel_rfl) (by kernel_rfl) (by kernel_rfl) (by kernel_rfl) (fun _ _ _ h => h) (hS _ rfl) (Or.inl ⟨rfl, fun w1 hw1 => by go_simp⟩) ?_
  simp only [Act.put, List.setIfInBounds_toArray, List.set_cons_zero, List.set_cons_succ]
  refine wpAnyK_takeTo 1 (some 17) (.pointer (some ⟨b, 0, none⟩)) [12, 13, 14] rfl rfl (by kernel_rfl) (by kernel_rfl) (by kernel_rfl) (by kernel_rfl) (fun _ _ _ h => h) (hS _ rfl) (Or.inl ⟨rfl, fun w1 hw1 => by go_simp⟩) ?_
  simp only [Act.put, List.setIfInBounds_toArray, List.set_cons_zero, List.set_cons_succ]
  refine wpAnyK_takeTo 2 (some 18) (.pointer (some ⟨b, 0, none⟩)) [12, 13, 14] rfl rfl (by kernel_rfl) (by kernel_rfl) (by kernel_rfl) (by kernel_rfl) (fun _ _ _ h => h) (hS _ rfl) (Or.inl ⟨rfl, fun w1 hw1 => by go_simp⟩) ?_
  simp only [Act.put, List.setIfInBounds_toArray, List.set_cons_zero, List.set_cons_succ]
  refine wpAnyK_takeTo 3 (some 19) (.pointer (some ⟨b, 1, none⟩)) [12, 13, 14] rfl rfl (by kernel_rfl) (by kernel_rfl) (by kernel_rfl) (by kernel_rfl) (fun _ _ _ h => h) (hS _ rfl) (Or.inl ⟨rfl, fun w1 hw1 => by go_simp⟩) ?_
  simp only [Act.put, List.setIfInBounds_toArray, List.set_cons_zero, List.set_cons_succ]
  refine wpAnyK_takeTo 4 (some 20) (pv) [12, 13, 14] rfl rfl (by kernel_rfl) (by kernel_rfl) (by kernel_rfl) (by kernel_rfl) (fun _ _ _ h => h) (hS _ rfl) (Or.inl ⟨rfl, fun w1 hw1 => by simp only [] at hw1; go_simp⟩) ?_
  simp only [Act.put, List.setIfInBounds_toArray, List.set_cons_zero, List.set_cons_succ]
  refine wpAnyK_takeTo 5 (some 21) (.int .i64 n) [12, 13, 14] rfl rfl (by kernel_rfl) (by kernel_rfl) (by kernel_rfl) (by kernel_rfl) (fun _ _ _ h => h) (hS _ rfl) (Or.inl ⟨rfl, fun w1 hw1 => by go_simp⟩) ?_
  simp only [Act.put, List.setIfInBounds_toArray, List.set_cons_zero, List.set_cons_succ]
  refine wpAnyK_takeTo 6 (some 22) (.slice (some ⟨g, off, none⟩) 256 c) [12, 13, 14] rfl rfl (by kernel_rfl) (by kernel_rfl) (by kernel_rfl) (by kernel_rfl) (fun _ _ _ h => h) (hS _ rfl) (Or.inl ⟨rfl, fun w1 hw1 => by go_simp⟩) ?_
  simp only [Act.put, List.setIfInBounds_toArray, List.set_cons_zero, List.set_cons_succ]
  refine wpAnyK_takeTo 7 (some 23) (.pointer (some ⟨g, off, none⟩)) [12, 13, 14] rfl rfl (by kernel_rfl) (by kernel_rfl) (by kernel_rfl) (by kernel_rfl) (fun _ _ _ h => h) (hS _ rfl) (Or.inl ⟨rfl, fun w1 hw1 => by go_simp⟩) ?_
  simp only [Act.put, List.setIfInBounds_toArray, List.set_cons_zero, List.set_cons_succ]
  refine wpAnyK_takeTo 8 (some 24) (.agg (enc l).toArray) [12, 13, 14] rfl rfl (by kernel_rfl) (by kernel_rfl) (by kernel_rfl) (by kernel_rfl) (fun _ _ _ h => h) (hS _ rfl) (yieldsIf_load_mid rfl 91 (.tmp 23) rfl g off rfl (enc l) (.array 256 5) (fun _ h => h.2) Try.underlying91 rfl (by rw [length_enc, hl]; exact info67)) ?_
  simp only [Act.put, List.setIfInBounds_toArray, List.set_cons_zero, List.set_cons_succ]
  refine wpAnyK_takeTo 9 (some 25) (.agg (wcells n l).toArray) [12, 13, 14] rfl rfl (by kernel_rfl) (by kernel_rfl) (by kernel_rfl) (by kernel_rfl) (fun _ _ _ h => h) (hS _ rfl) (Or.inl ⟨rfl, fun w1 _ => exec_build70 (.tmp 21) (.tmp 24) rfl n l rfl rfl hl w1⟩) ?_
  simp only [Act.put, List.setIfInBounds_toArray, List.set_cons_zero, List.set_cons_succ]
  refine wpAnyK_one (i := 10) (by kernel_rfl) rfl rfl ?_
  refine wp_buildSlice55 (.tmp 25) rfl (some 26) rfl n l rfl hl ?_
  simp only [Act.put, List.setIfInBounds_toArray, List.set_cons_zero, List.set_cons_succ]
  have hw0 : w'.drew.heap.size = w'.heap.size := rfl
  obtain ⟨W1, hW1⟩ : ∃ W1, W1 = w'.drew.alloc (.cells (wcells n l).toArray 93) := ⟨_, rfl⟩
  have F1 : Fr w' W1 (fun _ => False) := by
    subst hW1
    exact ((Fr.drew w' (fun _ => False)).trans (Fr.alloc _ _ (fun _ => False))).mono (by simp)
  have hnews : ∀ j u, (wcells n l)[j]? = some u → W1.cell? ((⟨w'.drew.heap.size, 0, none⟩ : Addr).add j) = some u := by
    intro j u hu
    rw [Addr.add_mid, hW1, cell_of_row _ _ _ _ _ _ (heap_alloc_new w'.drew _)]
    simpa using hu
  have hs1 : W1.heap.size = w'.heap.size + 1 := by subst hW1; simp
  rw [← hW1]
  have HW1 : Hid (W1 = w'.drew.alloc (.cells (wcells n l).toArray 93)) := hW1
  clear hW1
  have e1 : W1.cell? ⟨b, 1, none⟩ = some pv := by
    rw [World.cell?_of_block (w := w') (F1.block b (World.block_lt_of_cell? w' _ c1) (fun h => h))]; exact c1
  have e2 : W1.rangeAt g off (enc l) := rangeAt_fr hr F1 (fun h => h)
  refine ⟨fun _ => ⟨e1, e2⟩, ?_⟩
  obtain ⟨i70, hi, hz, hsz, hby⟩ := info70
  obtain ⟨v', W2, hrun, hown, hgr, hfresh⟩ := run_append_gen (P := Try.prog) W1 65 65 93 i70 _ 257 264 Try.underlying65 hi hz hsz hby
    (by simp only [Value.cells, List.size_toArray, length_wcells, length_part 0 0 (Nat.zero_le _)]) (by omega) pv L.length (encW L) (ownsRow_fr h.pend F1 (fun _ _ h => h))
    ⟨w'.drew.heap.size, 0, none⟩ 1 1 (wcells n l) (by rw [length_wcells, hl]) hnews (wcells_oneCell n l) (by unfold maxLen; omega) (by omega)
  have F2 : Fr W1 W2 (fun k => pv.ownBlock = some k) := Fr.grown hgr
  have d1 : W2.cell? ⟨b, 1, none⟩ = some pv := by
    rw [World.cell?_of_block (w := W1) (F2.block b (World.block_lt_of_cell? W1 _ e1) h.ne2)]; exact e1
  have d2 : W2.rangeAt g off (enc l) := rangeAt_fr e2 F2 hg
  have F12 : Fr w' W2 (fun k => pv.ownBlock = some k) := (F1.trans F2).mono (fun k _ hk => hk.elim False.elim id)
  refine wpAnyK_one (i := 11) (by kernel_rfl) rfl rfl ?_
  refine wp_append_to (.tmp 20) (.tmp 26) 65 rfl (some 27) rfl 65 rfl _ _ rfl rfl v' W2 hrun ?_
  simp only [Act.put, List.setIfInBounds_toArray, List.set_cons_zero, List.set_cons_succ]
  refine ⟨fun _ => ⟨d1, d2⟩, ?_⟩
  refine wpAnyK_takeTo 12 (some 28) (.pointer (some ⟨b, 0, none⟩)) [13, 14] rfl rfl (by kernel_rfl) (by kernel_rfl) (by kernel_rfl) (by kernel_rfl) (fun _ _ _ h => h) ⟨d1, d2⟩ (Or.inl ⟨rfl, fun w1 _ => by go_simp⟩) ?_
  simp only [Act.put, List.setIfInBounds_toArray, List.set_cons_zero, List.set_cons_succ]
  refine wpAnyK_takeTo 13 (some 29) (.pointer (some ⟨b, 1, none⟩)) [14] rfl rfl (by kernel_rfl) (by kernel_rfl) (by kernel_rfl) (by kernel_rfl) (fun _ _ _ h => h) ⟨d1, d2⟩ (Or.inl ⟨rfl, fun w1 _ => by go_simp⟩) ?_
  simp only [Act.put, List.setIfInBounds_toArray, List.set_cons_zero, List.set_cons_succ]
  have hbW2 : W2.heap[b]? = some (.cells #[.slice (some ⟨gs, 0, none⟩) S.length cs, pv] 67 (0, 0)) := by
    rw [F12.block b (World.block_lt_of_cell? w' _ c1) h.ne2]; exact h.here
  have dz : W2.frozen? ⟨b, 1, none⟩ = false := by simp [World.frozen?, hbW2]
  obtain ⟨g', cap', hv'⟩ : ∃ g' cap', v' = .slice (some ⟨g', 0, none⟩) (L.length + 1) cap' := by
    rcases hown.2 with ⟨_, h0⟩ | ⟨g', cap', cur', hv, _⟩
    · omega
    · exact ⟨g', cap', hv⟩
  subst hv'
  refine wpAnyK_one (i := 14) (by kernel_rfl) rfl rfl ?_
  go_simp
  refine wpAnyK_done (by kernel_rfl) ?_ _
  go_wp2
  go_ret
  have F3 := Fr.setCell W2 ⟨b, 1, none⟩ (.slice (some ⟨g', 0, none⟩) (L.length + 1) cap')
  have F13 : Fr w' (W2.setCell ⟨b, 1, none⟩ (.slice (some ⟨g', 0, none⟩) (L.length + 1) cap')) (fun k => k = b ∨ pv.ownBlock = some k) := (F12.trans F3).mono (fun k _ hk => hk.symm)
  have hgs : gs < w'.heap.size := (Array.getElem?_eq_some_iff.1 h.secs).1
  have hbs : b < w'.heap.size := (Array.getElem?_eq_some_iff.1 h.here).1
  have hfr : (Value.slice (some ⟨g', 0, none⟩) (L.length + 1) cap').ownBlock = pv.ownBlock ∨ ∃ k, (Value.slice (some ⟨g', 0, none⟩) (L.length + 1) cap').ownBlock = some k ∧ w'.heap.size ≤ k :=
    hfresh.imp id (fun ⟨k, hk, hk2⟩ => ⟨k, hk, by omega⟩)
  have hne : ∀ k, k < w'.heap.size → pv.ownBlock ≠ some k → (Value.slice (some ⟨g', 0, none⟩) (L.length + 1) cap').ownBlock ≠ some k := by
    intro k hk hp he
    rcases hfr with h2 | ⟨k', h2, h3⟩
    · rw [h2] at he; exact hp he
    · rw [h2] at he; injection he with he; omega
  refine ⟨rfl, _, ⟨?_, ?_, h.le, h.max, h.size, h.take, ?_, h.ne1, hne b hbs h.ne2, hne gs hgs h.ne3, h.lens, ?_⟩, hfr, F13⟩
  · rw [heap_setCell_here _ _ _ _ _ _ _ hbW2]; rfl
  · rw [F13.block gs hgs (by rintro (h2 | h2); exact h.ne1 h2; exact h.ne3 h2)]; exact h.secs
  · have := ownsRow_fr hown F3 (fun k hk hk2 => by rw [show k = b from hk2] at hk; exact hne b hbs h.ne2 hk)
    rw [List.length_append, encW_append]
    have e : encW [(n.toNat, l)] = wcells n l := by simp [encW, Int.toNat_of_nonneg h0]
    rw [e]
    exact this
  · intro p hp
    rcases List.mem_append.1 hp with hp | hp
    · exact h.lenw p hp
    · simp only [List.mem_singleton] at hp
      subst hp
      exact ⟨hl, by show n.toNat < S.length; omega⟩

end Go.Proofs.Ytpjelmlbikmddaa
