/- The document's Crash. -/
import Derived.Test.YtachppnakmdjhaaXd
import Derived.Lib.IndexBytes
namespace Go.Proofs.Ytachppnakmdjhaa
open Go.RowKit

theorem strOf_take (l : List UInt8) (c : Nat) : (strOf l).extract 0 c = strOf (l.take c) := by
  have h := Lib.extract_data (strOf l) 0 c
  simp only [List.drop_zero, Nat.sub_zero] at h
  have e : (strOf l).data.toList = l := by simp [strOf]
  rw [e] at h
  cases hh : (strOf l).extract 0 c with
  | mk d =>
    rw [hh] at h
    unfold strOf
    congr 1
    rw [← h]

theorem strOf_drop (l : List UInt8) (c : Nat) : (strOf l).extract c (strOf l).size = strOf (l.drop c) := by
  have h := Lib.extract_to_end (strOf l) c
  have e : (strOf l).data.toList = l := by simp [strOf]
  rw [e] at h
  cases hh : (strOf l).extract c (strOf l).size with
  | mk d =>
    rw [hh] at h
    unfold strOf
    congr 1
    rw [← h]

theorem run_cut1 (l : List UInt8) (c : Nat) (hc : c ≤ l.length) (w : World) : (Instr.sliceAt 9 (.string (strOf l)) none (some (.int .i64 c)) none).run Try.prog w = .ok (.string (strOf (l.take c))) w := by
  have h2 : (c : Int) ≤ (strOf l).size := by rw [strOf_size]; omega
  have h0 : (0 : Int) ≤ c := by omega
  go_simp
  exact strOf_take l c

theorem run_cut2 (l : List UInt8) (c : Nat) (hc : c ≤ l.length) (w : World) : (Instr.sliceAt 9 (.string (strOf l)) (some (.int .i64 c)) none none).run Try.prog w = .ok (.string (strOf (l.drop c))) w := by
  have h2 : (c : Int) ≤ (strOf l).size := by rw [strOf_size]; omega
  have h0 : (0 : Int) ≤ c := by omega
  go_simp
  exact strOf_drop l c

theorem exec_cut1 {ρ : Operand → Value} {o : Oper} (x y : Operand) (ho : o.op = .slice 9 x none (some y) none) (l : List UInt8) (v : Int) (c : Nat) (hx : ρ x = .string (strOf l)) (hy : ρ y = .int .i64 v) (hv : v = c) (hc : c ≤ l.length) (w : World) :
    (execOp ρ o).run Try.prog w = .ok (.value (.string (strOf (l.take c)))) w := by
  subst hv
  unfold execOp
  simp only [ho, hx, hy, Option.map_none, Option.map_some, Sem.run_bind, run_cut1 l c hc, Result.andThen_ok]
  rfl
theorem exec_cut2 {ρ : Operand → Value} {o : Oper} (x y : Operand) (ho : o.op = .slice 9 x (some y) none none) (l : List UInt8) (v : Int) (c : Nat) (hx : ρ x = .string (strOf l)) (hy : ρ y = .int .i64 v) (hv : v = c) (hc : c ≤ l.length) (w : World) :
    (execOp ρ o).run Try.prog w = .ok (.value (.string (strOf (l.drop c)))) w := by
  subst hv
  unfold execOp
  simp only [ho, hx, hy, Option.map_none, Option.map_some, Sem.run_bind, run_cut2 l c hc, Result.andThen_ok]
  rfl
theorem exec_add {ρ : Operand → Value} {o : Oper} (x y : Operand) (ho : o.op = .binOp .add 9 x y 9) (l m : List UInt8) (hx : ρ x = .string (strOf l)) (hy : ρ y = .string (strOf m)) (h : l.length + m.length ≤ 1000) (w : World) :
    (execOp ρ o).run Try.prog w = .ok (.value (.string (strOf (l ++ m)))) w := by
  have hsz : ¬ 9223372036854775807 < (strOf l).size + (strOf m).size := by rw [strOf_size, strOf_size]; omega
  unfold execOp
  simp only [ho, hx, hy]
  go_simp
  exact strOf_append l m

/-- How many bytes of write i the document's Crash brings to its sector. -/
def rcnt (all : Bool) (kb : List Bool) (tear at_ : Int) (i : Nat) : Nat :=
  if all = false ∧ (i : Int) = tear then (min (max at_ 0) 256).toNat else if all = true ∨ kb.getD i false = true then 256 else 0

theorem layS_zero (S : List (List UInt8)) (n : Nat) (l : List UInt8) (hn : n < S.length) : layS S n l 0 = S := by
  unfold layS
  have e : S.getD n [] = S[n] := by simp [hn]
  rw [List.take_zero, List.nil_append, List.drop_zero, e]
  exact List.set_getElem_self hn

theorem strs_set (S : List (List UInt8)) (n : Nat) (x : List UInt8) : (strs S).set n (.string (strOf x)) = strs (S.set n x) := by simp [strs, List.map_set]

theorem own_set {w : World} {g n c : Nat} {xs : List Value} (h : w.ownsRow 0 9 1 (.slice (some ⟨g, 0, none⟩) n c) n xs) (j : Nat) (v : Value) : (w.setCell ⟨g, j, none⟩ v).ownsRow 0 9 1 (.slice (some ⟨g, 0, none⟩) n c) n (xs.set j v) := by
  refine ⟨by rw [List.length_set]; exact h.1, ?_⟩
  rcases h.2 with ⟨h1, _⟩ | ⟨g', cap, cur, hv, h1, h2, h3, h4, h5, h6⟩
  · simp at h1
  · simp only [Value.slice.injEq, Option.some.injEq, Addr.mk.injEq, and_true, true_and] at hv
    obtain ⟨rfl, rfl⟩ := hv
    refine .inr ⟨g, c, cur.setIfInBounds j v, rfl, h1, heap_setCell_here _ _ _ _ _ _ _ h2, h3, h4, by simpa using h5, ?_⟩
    rw [← h6]
    simp only [Array.toList_setIfInBounds]
    rw [List.take_set]

theorem Bools.fr' {w w' : World} {ka : Option Addr} {kl : Nat} {kb : List Bool} (h : Bools w ka kl kb) (hf : Fr w w' (fun _ => False)) : Bools w' ka kl kb := h.fr hf

theorem rcnt_tear {kb : List Bool} {tear at_ : Int} {k : Nat} (h : (k : Int) = tear) : rcnt false kb tear at_ k = (min (max at_ 0) 256).toNat := by
  unfold rcnt; rw [if_pos ⟨rfl, h⟩]
theorem rcnt_kept {kb : List Bool} {tear at_ : Int} {k : Nat} (h : ¬ (k : Int) = tear) (hk : kb.getD k false = true) : rcnt false kb tear at_ k = 256 := by
  unfold rcnt; rw [if_neg (fun h2 => h h2.2), if_pos (Or.inr hk)]
theorem rcnt_not {kb : List Bool} {tear at_ : Int} {k : Nat} (h : ¬ (k : Int) = tear) (hk : ¬ kb.getD k false = true) : rcnt false kb tear at_ k = 0 := by
  unfold rcnt; rw [if_neg (fun h2 => h h2.2), if_neg (by rintro (h2 | h2); cases h2; exact hk h2)]

theorem rcnt_le (all : Bool) (kb : List Bool) (tear at_ : Int) (i : Nat) : rcnt all kb tear at_ i ≤ 256 := by
  unfold rcnt
  split
  · omega
  · split <;> omega

theorem own_free {w : World} {g n c : Nat} {e : TypeId} {s : Nat} {xs : List Value} (h : w.ownsRow 0 e s (.slice (some ⟨g, 0, none⟩) n c) n xs) (j : Nat) : w.drew.frozen? ⟨g, j, none⟩ = false := by
  show w.frozen? ⟨g, j, none⟩ = false
  rcases h.2 with ⟨h1, _⟩ | ⟨g', cap, cur, hv, _, h2, _⟩
  · simp at h1
  · simp only [Value.slice.injEq, Option.some.injEq, Addr.mk.injEq, and_true, true_and] at hv
    obtain ⟨rfl, rfl⟩ := hv
    simp [World.frozen?, h2]

set_option maxRecDepth 100000 in
set_option maxHeartbeats 16000000 in
theorem rcrash_all {w : World} {a : Option Addr} {c : Nat} {a1 : Option Addr} {c1 : Nat} {S : List (List UInt8)} {L : List (Nat × List UInt8)} (h : RefIs w a c a1 c1 S L) (ka : Option Addr) (kl kc : Nat) (kb : List Bool) (hkb : Bools w ka kl kb) (tear at_ : Int)
    (hS1 : 1 ≤ S.length) (hS : S.length ≤ 4096) (hb : L.length ≤ 134217728) (hls : ∀ s ∈ S, s.length = 256) (hlw : ∀ p ∈ L, p.2.length = 256 ∧ p.1 < S.length) :
    Calls Try.prog 23 #[.agg #[.slice a S.length c, .slice a1 L.length c1], .bool true, .slice ka kl kc, .int .i64 tear, .int .i64 at_] w fun e w' => ∃ a' c', e = .returned (.agg #[.slice a' S.length c', .slice none 0 0]) ∧
      RefIs w' a' c' none 0 (laysTo S L (fun i => some (rcnt true kb tear at_ i)) L.length) [] ∧ (∀ k, (Value.slice a' S.length c').ownBlock = some k → w.heap.size ≤ k) ∧ Fr w w' (fun _ => False) := by
  have HH := hide h
  have HKB := hide hkb
  have HLW := hide hlw
  have HLS := hide hls
  clear h hkb hlw hls
  go_enter Try.func23, Try.ntmps23
  go_wp2_with fail
  have hF := Fr.alloc2 w (.cells #[.slice a S.length c, .slice a1 L.length c1] 31) (.cells #[.slice none 0 0, .slice none 0 0] 31)
  have hT0 := two_of (heap_alloc2_old w (.cells #[.slice a S.length c, .slice a1 L.length c1] 31) (.cells #[.slice none 0 0, .slice none 0 0] 31))
  have hT1 := two_of (heap_alloc2_new w (.cells #[.slice a S.length c, .slice a1 L.length c1] 31) (.cells #[.slice none 0 0, .slice none 0 0] 31))
  have h2 := HH.out.fr hF (by simp) (by simp)
  refine (rcopy_any h2.sx h2.py (strs_one S) (encRef_one L) hS (by omega)).mono ?_
  rintro e w2 ⟨a', c', a1', c1', rfl, o1, o2, g1, g2, F1⟩
  simp only [World.size_alloc] at g1
  have s1 := F1.size
  simp only [World.size_alloc] at s1
  obtain ⟨g, rfl⟩ := own_some o1 (by omega)
  have hg1 := g1 g rfl
  have HGO := hide (by have := (o1.lt g rfl).2; omega : w.heap.size + 2 ≤ g ∧ g < w2.heap.size)
  have F02 : Fr w w2 (fun _ => False) := (hF.trans F1).mono (by simp)
  have T0 := hide (hT0.fr F1 id)
  have T1 := hide (hT1.fr F1 id)
  have O1 := hide o1
  have HF02 := hide F02
  clear hF hT0 hT1 h2 o1 o2 g1 g2 F1 F02 hg1
  go_wp2
  obtain ⟨w3, hw3⟩ : ∃ w3, w3 = w2.alloc (.cells #[.slice (some ⟨g, 0, none⟩) S.length c', .slice none 0 0] 31) := ⟨_, rfl⟩
  rw [← hw3]
  have F23 : Fr w2 w3 (fun _ => False) := by rw [hw3]; exact Fr.alloc _ _ _
  have T3 := hide (two_of (latest_block hw3))
  have S3 := hide (by rw [hw3]; simp : w3.heap.size = w2.heap.size + 1)
  have HF23 := hide F23
  clear hw3 F23
  go_loopw [12] (fun i wr => ∃ k : Nat, k ≤ L.length ∧ i = .int .i64 k ∧ Two wr w.heap.size (.slice a S.length c) (.slice a1 L.length c1) ∧ Two wr (w.heap.size + 1) (.slice none 0 0) (.slice none 0 0) ∧ Two wr w2.heap.size (.slice (some ⟨g, 0, none⟩) S.length c') (.slice none 0 0) ∧ wr.ownsRow 0 9 1 (.slice (some ⟨g, 0, none⟩) S.length c') S.length (strs (laysTo S L (fun i => some (rcnt true kb tear at_ i)) k)) ∧ w2.heap.size + 1 ≤ wr.heap.size ∧ Fr w wr (fun _ => False)) (fun i _ => L.length - (intOf i).toNat)
  case atStart => exact ⟨0, Nat.zero_le _, rfl, T0.out.fr HF23.out id, T1.out.fr HF23.out id, T3.out, ownsRow_fr O1.out HF23.out (by simp), by rw [S3.out]; omega, (HF02.out.trans HF23.out).mono (by simp)⟩
  case round =>
    obtain ⟨k, hk, rfl, t0, t1, t3, ho, hsz, hfr⟩ := hrel
    have A0 := hide t0
    have A1 := hide t1
    have A3 := hide t3
    have HO := hide ho
    have HF := hide hfr
    have d1 := t0.2.1
    by_cases hlt : k < L.length
    · clear t0 t1 t3 ho hfr
      obtain ⟨g4, rfl⟩ := own_some HH.out.py (by omega)
      obtain ⟨p, hp⟩ : ∃ p, L[k]? = some p := ⟨_, List.getElem?_eq_getElem hlt⟩
      have hpl := HLW.out p (List.mem_of_getElem? hp)
      have q4 := ownsRow_fr HH.out.py HF.out (by simp)
      have q0 := q4.cells (g := g4) rfl _ _ (encRef_get L k p hp).1
      have q1 := q4.cells (g := g4) rfl _ _ (encRef_get L k p hp).2
      rw [Addr.add_mid, Nat.zero_add] at q0 q1
      obtain ⟨SK, hSK⟩ : ∃ SK, SK = laysTo S L (fun i => some (rcnt true kb tear at_ i)) k := ⟨_, rfl⟩
      have hSKl : SK.length = S.length := by rw [hSK, laysTo_length]
      rw [← hSK] at HO
      obtain ⟨X, hX⟩ : ∃ X, X = SK.getD p.1 [] := ⟨_, rfl⟩
      have hXl : X.length = 256 := by
        have := laysTo_lens S L (fun i => some (rcnt true kb tear at_ i)) (by intro i c hc; injection hc with hc; rw [← hc]; exact rcnt_le _ _ _ _ _) HLS.out HLW.out k
        rw [← hSK] at this
        rw [hX]
        have e : SK.getD p.1 [] = SK[p.1]'(by rw [hSKl]; exact hpl.2) := by simp [hSKl, hpl.2]
        rw [e]; exact this _ (List.getElem_mem _)
      have hcx := HO.out.cells (g := g) rfl p.1 _ (by rw [strs_get SK p.1 (by rw [hSKl]; exact hpl.2)])
      rw [Addr.add_mid, Nat.zero_add, ← hX] at hcx
      have HRC : Hid (∀ x, rcnt true kb tear at_ k = x → laysTo S L (fun i => some (rcnt true kb tear at_ i)) (k + 1) = SK.set p.1 (p.2.take x ++ X.drop x)) := by
        intro x hx
        rw [laysTo_some S L _ k p hp x (by rw [hx]), ← hSK, hX]; rfl
      have HP1 := hide hpl.1
      have hpi : (p.1 : Int) < (S.length : Int) := by omega
      have hp0 : (0 : Int) ≤ p.1 := by omega
      have HSS : Hid ((wr.alloc (.cells #[.int .i64 p.1, .string (strOf p.2)] 113)).drew.cell? ⟨w2.heap.size, 0, none⟩ = some (.slice (some ⟨g, 0, none⟩) S.length c') ∧ (wr.alloc (.cells #[.int .i64 p.1, .string (strOf p.2)] 113)).drew.cell? ⟨wr.heap.size, 0, none⟩ = some (.int .i64 p.1) ∧ (wr.alloc (.cells #[.int .i64 p.1, .string (strOf p.2)] 113)).drew.cell? ⟨wr.heap.size, 1, none⟩ = some (.string (strOf p.2)) ∧ (wr.alloc (.cells #[.int .i64 p.1, .string (strOf p.2)] 113)).drew.cell? ⟨g, p.1, none⟩ = some (.string (strOf X))) := by
        have FA := Fr.alloc wr (.cells #[.int .i64 p.1, .string (strOf p.2)] 113) (fun _ => False)
        have tt := two_of (heap_alloc_new wr (.cells #[.int .i64 p.1, .string (strOf p.2)] 113))
        refine ⟨(A3.out.fr FA id).1, tt.1, tt.2.1, ?_⟩
        show (wr.alloc (.cells #[.int .i64 p.1, .string (strOf p.2)] 113)).cell? ⟨g, p.1, none⟩ = _
        rw [World.cell?_of_block (w := wr) (FA.block g (World.block_lt_of_cell? wr _ hcx) id)]; exact hcx
      have HFZ : Hid ((wr.alloc (.cells #[.int .i64 p.1, .string (strOf p.2)] 113)).drew.frozen? ⟨g, p.1, none⟩ = false) := own_free (HO.out.alloc (.cells #[.int .i64 p.1, .string (strOf p.2)] 113)) p.1
      have HKW := hide (HKB.out.fr HF.out)
      clear hX hSK hp q4 hcx
      go_wp2_with fail
      refine wp_region_K (fun i => !(i == 18)) (fun W => W.cell? ⟨w2.heap.size, 0, none⟩ = some (.slice (some ⟨g, 0, none⟩) S.length c') ∧ W.cell? ⟨wr.heap.size, 0, none⟩ = some (.int .i64 p.1) ∧ W.cell? ⟨wr.heap.size, 1, none⟩ = some (.string (strOf p.2)) ∧ W.cell? ⟨g, p.1, none⟩ = some (.string (strOf X))) (by kernel_rfl) ?_
      have hS : (wr.alloc (.cells #[.int .i64 p.1, .string (strOf p.2)] 113)).drew.cell? ⟨w2.heap.size, 0, none⟩ = some (.slice (some ⟨g, 0, none⟩) S.length c') ∧ (wr.alloc (.cells #[.int .i64 p.1, .string (strOf p.2)] 113)).drew.cell? ⟨wr.heap.size, 0, none⟩ = some (.int .i64 p.1) ∧ (wr.alloc (.cells #[.int .i64 p.1, .string (strOf p.2)] 113)).drew.cell? ⟨wr.heap.size, 1, none⟩ = some (.string (strOf p.2)) ∧ (wr.alloc (.cells #[.int .i64 p.1, .string (strOf p.2)] 113)).drew.cell? ⟨g, p.1, none⟩ = some (.string (strOf X)) := HSS.out
      refine wpAnyK_takeTo 0 (some 55) (.pointer (some ⟨w2.heap.size, 0, none⟩)) [18] rfl rfl (by kernel_rfl) (by kernel_rfl) (by kernel_rfl) (by kernel_rfl) (fun _ _ _ h => h) hS (Or.inl ⟨rfl, fun w1 hw1 => by go_simp⟩) ?_
      simp only [Act.put, List.setIfInBounds_toArray, List.set_cons_zero, List.set_cons_succ]
      refine wpAnyK_takeTo 1 (some 56) (.slice (some ⟨g, 0, none⟩) S.length c') [18] rfl rfl (by kernel_rfl) (by kernel_rfl) (by kernel_rfl) (by kernel_rfl) (fun _ _ _ h => h) hS (Or.inl ⟨rfl, fun w1 hw1 => by simp only [] at hw1; obtain ⟨u1, u2, u3, u4⟩ := hw1; go_simp⟩) ?_
      simp only [Act.put, List.setIfInBounds_toArray, List.set_cons_zero, List.set_cons_succ]
      refine wpAnyK_takeTo 2 (some 57) (.pointer (some ⟨wr.heap.size, 0, none⟩)) [18] rfl rfl (by kernel_rfl) (by kernel_rfl) (by kernel_rfl) (by kernel_rfl) (fun _ _ _ h => h) hS (Or.inl ⟨rfl, fun w1 hw1 => by go_simp⟩) ?_
      simp only [Act.put, List.setIfInBounds_toArray, List.set_cons_zero, List.set_cons_succ]
      refine wpAnyK_takeTo 3 (some 58) (.int .i64 p.1) [18] rfl rfl (by kernel_rfl) (by kernel_rfl) (by kernel_rfl) (by kernel_rfl) (fun _ _ _ h => h) hS (Or.inl ⟨rfl, fun w1 hw1 => by simp only [] at hw1; obtain ⟨u1, u2, u3, u4⟩ := hw1; go_simp⟩) ?_
      simp only [Act.put, List.setIfInBounds_toArray, List.set_cons_zero, List.set_cons_succ]
      refine wpAnyK_takeTo 4 (some 59) (.pointer (some ⟨wr.heap.size, 1, none⟩)) [18] rfl rfl (by kernel_rfl) (by kernel_rfl) (by kernel_rfl) (by kernel_rfl) (fun _ _ _ h => h) hS (Or.inl ⟨rfl, fun w1 hw1 => by go_simp⟩) ?_
      simp only [Act.put, List.setIfInBounds_toArray, List.set_cons_zero, List.set_cons_succ]
      refine wpAnyK_takeTo 5 (some 60) (.string (strOf p.2)) [18] rfl rfl (by kernel_rfl) (by kernel_rfl) (by kernel_rfl) (by kernel_rfl) (fun _ _ _ h => h) hS (Or.inl ⟨rfl, fun w1 hw1 => by simp only [] at hw1; obtain ⟨u1, u2, u3, u4⟩ := hw1; go_simp⟩) ?_
      simp only [Act.put, List.setIfInBounds_toArray, List.set_cons_zero, List.set_cons_succ]
      refine wpAnyK_takeTo 6 (some 61) (.int .i64 256) [18] rfl rfl (by kernel_rfl) (by kernel_rfl) (by kernel_rfl) (by kernel_rfl) (fun _ _ _ h => h) hS (Or.inl ⟨rfl, fun w1 hw1 => by go_simp⟩) ?_
      simp only [Act.put, List.setIfInBounds_toArray, List.set_cons_zero, List.set_cons_succ]
      refine wpAnyK_takeTo 7 (some 62) (.string (strOf (p.2.take 256))) [18] rfl rfl (by kernel_rfl) (by kernel_rfl) (by kernel_rfl) (by kernel_rfl) (fun _ _ _ h => h) hS (Or.inl ⟨rfl, fun w1 _ => exec_cut1 (.tmp 60) (.tmp 61) rfl p.2 256 256 rfl rfl (by decide) (by rw [HP1.out]; omega) w1⟩) ?_
      simp only [Act.put, List.setIfInBounds_toArray, List.set_cons_zero, List.set_cons_succ]
      refine wpAnyK_takeTo 8 (some 63) (.pointer (some ⟨w2.heap.size, 0, none⟩)) [18] rfl rfl (by kernel_rfl) (by kernel_rfl) (by kernel_rfl) (by kernel_rfl) (fun _ _ _ h => h) hS (Or.inl ⟨rfl, fun w1 hw1 => by go_simp⟩) ?_
      simp only [Act.put, List.setIfInBounds_toArray, List.set_cons_zero, List.set_cons_succ]
      refine wpAnyK_takeTo 9 (some 64) (.slice (some ⟨g, 0, none⟩) S.length c') [18] rfl rfl (by kernel_rfl) (by kernel_rfl) (by kernel_rfl) (by kernel_rfl) (fun _ _ _ h => h) hS (Or.inl ⟨rfl, fun w1 hw1 => by simp only [] at hw1; obtain ⟨u1, u2, u3, u4⟩ := hw1; go_simp⟩) ?_
      simp only [Act.put, List.setIfInBounds_toArray, List.set_cons_zero, List.set_cons_succ]
      refine wpAnyK_takeTo 10 (some 65) (.pointer (some ⟨wr.heap.size, 0, none⟩)) [18] rfl rfl (by kernel_rfl) (by kernel_rfl) (by kernel_rfl) (by kernel_rfl) (fun _ _ _ h => h) hS (Or.inl ⟨rfl, fun w1 hw1 => by go_simp⟩) ?_
      simp only [Act.put, List.setIfInBounds_toArray, List.set_cons_zero, List.set_cons_succ]
      refine wpAnyK_takeTo 11 (some 66) (.int .i64 p.1) [18] rfl rfl (by kernel_rfl) (by kernel_rfl) (by kernel_rfl) (by kernel_rfl) (fun _ _ _ h => h) hS (Or.inl ⟨rfl, fun w1 hw1 => by simp only [] at hw1; obtain ⟨u1, u2, u3, u4⟩ := hw1; go_simp⟩) ?_
      simp only [Act.put, List.setIfInBounds_toArray, List.set_cons_zero, List.set_cons_succ]
      refine wpAnyK_takeTo 12 (some 67) (.pointer (some ⟨g, p.1, none⟩)) [18] rfl rfl (by kernel_rfl) (by kernel_rfl) (by kernel_rfl) (by kernel_rfl) (fun _ _ _ h => h) hS (Or.inl ⟨rfl, fun w1 hw1 => by go_simp⟩) ?_
      simp only [Act.put, List.setIfInBounds_toArray, List.set_cons_zero, List.set_cons_succ]
      refine wpAnyK_takeTo 13 (some 68) (.string (strOf X)) [18] rfl rfl (by kernel_rfl) (by kernel_rfl) (by kernel_rfl) (by kernel_rfl) (fun _ _ _ h => h) hS (Or.inl ⟨rfl, fun w1 hw1 => by simp only [] at hw1; obtain ⟨u1, u2, u3, u4⟩ := hw1; go_simp⟩) ?_
      simp only [Act.put, List.setIfInBounds_toArray, List.set_cons_zero, List.set_cons_succ]
      refine wpAnyK_takeTo 14 (some 69) (.int .i64 256) [18] rfl rfl (by kernel_rfl) (by kernel_rfl) (by kernel_rfl) (by kernel_rfl) (fun _ _ _ h => h) hS (Or.inl ⟨rfl, fun w1 hw1 => by go_simp⟩) ?_
      simp only [Act.put, List.setIfInBounds_toArray, List.set_cons_zero, List.set_cons_succ]
      refine wpAnyK_takeTo 15 (some 70) (.string (strOf (X.drop 256))) [18] rfl rfl (by kernel_rfl) (by kernel_rfl) (by kernel_rfl) (by kernel_rfl) (fun _ _ _ h => h) hS (Or.inl ⟨rfl, fun w1 _ => exec_cut2 (.tmp 68) (.tmp 69) rfl X 256 256 rfl rfl (by decide) (by rw [hXl]; omega) w1⟩) ?_
      simp only [Act.put, List.setIfInBounds_toArray, List.set_cons_zero, List.set_cons_succ]
      refine wpAnyK_takeTo 16 (some 71) (.string (strOf (p.2.take 256 ++ X.drop 256))) [18] rfl rfl (by kernel_rfl) (by kernel_rfl) (by kernel_rfl) (by kernel_rfl) (fun _ _ _ h => h) hS (Or.inl ⟨rfl, fun w1 _ => exec_add (.tmp 62) (.tmp 70) rfl _ _ rfl rfl (by simp only [List.length_take, List.length_drop]; omega) w1⟩) ?_
      simp only [Act.put, List.setIfInBounds_toArray, List.set_cons_zero, List.set_cons_succ]
      refine wpAnyK_takeTo 17 (some 72) (.pointer (some ⟨g, p.1, none⟩)) [18] rfl rfl (by kernel_rfl) (by kernel_rfl) (by kernel_rfl) (by kernel_rfl) (fun _ _ _ h => h) hS (Or.inl ⟨rfl, fun w1 hw1 => by go_simp⟩) ?_
      simp only [Act.put, List.setIfInBounds_toArray, List.set_cons_zero, List.set_cons_succ]
      have hz := HFZ.out
      have hc4 := hS.2.2.2
      refine wpAnyK_one (i := 18) (by kernel_rfl) rfl rfl ?_
      go_simp
      refine wpAnyK_done (by kernel_rfl) ?_ _
      clear hS hz hc4
      have FA := (Fr.alloc wr (.cells #[.int .i64 p.1, .string (strOf p.2)] 113) (fun _ => False)).trans ((Fr.drew _ (fun _ => False)).trans (Fr.setCell _ ⟨g, p.1, none⟩ (.string (strOf (p.2.take 256 ++ X.drop 256)))))
      have hgo := HGO.out
      have E0 := hide (A0.out.fr FA (by rintro (h3 | h3 | h3); exact h3; exact h3; have : w.heap.size = g := h3; omega))
      have E1 := hide (A1.out.fr FA (by rintro (h3 | h3 | h3); exact h3; exact h3; have : w.heap.size + 1 = g := h3; omega))
      have E3 := hide (A3.out.fr FA (by rintro (h3 | h3 | h3); exact h3; exact h3; have : w2.heap.size = g := h3; omega))
      have EO := hide (own_set (ownsRow_fr HO.out ((Fr.alloc wr (.cells #[.int .i64 p.1, .string (strOf p.2)] 113) (fun _ => False)).trans (Fr.drew _ (fun _ => False))) (by simp)) p.1 (.string (strOf (p.2.take 256 ++ X.drop 256))))
      have ES := hide (Nat.le_trans hsz FA.size)
      have EF := hide ((HF.out.trans FA).mono (Y := fun _ => False) (by rintro q hq (h3 | h3 | h3 | h3); exact h3; exact h3; exact h3; have : q = g := h3; omega))
      have HL := hide (HRC.out (256) (by simp [rcnt]))
      clear FA hgo
      go_wp2
      go_roundw
      case rel => exact ⟨k + 1, by omega, by go_num, E0.out, E1.out, E3.out, by rw [HL.out, ← strs_set]; exact EO.out, ES.out, EF.out⟩
      case measure => simp [intOf]; omega
    · have x0 := t3.1
      have x1 := t3.2.1
      have x2 := t1.1
      have x3 := t1.2.1
      have x4 := t1.2.2 0
      have x5 := t1.2.2 1
      clear t0 t1 t3 ho hfr
      obtain rfl : k = L.length := by omega
      go_wp2
      have hg := HGO.out
      have B0 := (Fr.setCell wr ⟨w.heap.size + 1, 0, none⟩ (.slice (some ⟨g, 0, none⟩) S.length c')).trans (Fr.setCell _ ⟨w.heap.size + 1, 1, none⟩ (.slice none 0 0))
      have R := (A1.out.set0 (.slice (some ⟨g, 0, none⟩) S.length c')).set1 (.slice none 0 0)
      refine bodyPost_ret (results_two Try.results23 _ _ _ R rfl) rfl ⟨some ⟨g, 0, none⟩, c', rfl, ⟨?_, World.ownsRow_nil _ _ _ _⟩, ?_, ?_⟩
      · rw [laysTo_length]
        refine ownsRow_fr HO.out B0 (fun q hq => ?_)
        simp [Value.ownBlock] at hq
        subst hq
        rintro (h3 | h3)
        · have : g = w.heap.size + 1 := h3
          omega
        · have : g = w.heap.size + 1 := h3
          omega
      · intro q hq
        simp [Value.ownBlock] at hq
        omega
      · refine (HF.out.trans B0).mono ?_
        rintro q hq (h3 | h3 | h3)
        · exact h3
        · have : q = w.heap.size + 1 := h3
          omega
        · have : q = w.heap.size + 1 := h3
          omega

end Go.Proofs.Ytachppnakmdjhaa
