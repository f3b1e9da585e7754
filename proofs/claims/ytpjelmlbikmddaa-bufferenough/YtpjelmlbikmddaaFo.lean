/- Force: a log is made durable. -/
import Derived.Test.YtpjelmlbikmddaaOn
import Derived.Test.YtpjelmlbikmddaaRl
namespace Go.Proofs.Ytpjelmlbikmddaa
open Go.RowKit Go.Shelf
set_option maxRecDepth 100000
set_option linter.unusedVariables false
attribute [local go_sem] Oper.semAt_some

/-- A piece of the tail, as a sector. -/
def padC (T : List UInt8) (j : Nat) : List UInt8 := over (zeros 256) 0 ((chunk T j).take 256)
def forced (T : List UInt8) (base : Nat) (pre : List Nat) : List (Nat × List UInt8) := (pre.zipIdx base).map fun p => (p.2, padC T p.1)
theorem forced_snoc (T : List UInt8) (base : Nat) (pre : List Nat) (x : Nat) : forced T base (pre ++ [x]) = forced T base pre ++ [(base + pre.length, padC T x)] := by simp [forced, List.zipIdx_append]
theorem forced_length (T : List UInt8) (base : Nat) (pre : List Nat) : (forced T base pre).length = pre.length := by simp [forced]
theorem padC_length (T : List UInt8) (j : Nat) : (padC T j).length = 256 := by
  rw [padC, length_over _ _ _ (by simp [length_zeros]; omega), length_zeros]

/-- What is cells is kept by a step that turns what is none. -/
theorem DiskIs.turned {w w' : World} {b gs cs : Nat} {Cs : Array Value} {pv : Value} {S : List (List UInt8)} {L : List (Nat × List UInt8)} (h : DiskIs w b gs cs Cs pv S L) {row : Option Nat} (hg : w.grownBy w' row) (hr : ∀ r, row = some r → ∃ o : Obj, w.heap[r]? = some o ∧ o.isCells = false) : DiskIs w' b gs cs Cs pv S L := by
  refine h.apart (Fr.grown hg) ?_ ?_ ?_
  · intro e
    obtain ⟨o, ho, hc⟩ := hr b e
    rw [h.here] at ho; cases ho; cases hc
  · intro e
    obtain ⟨o, ho, hc⟩ := hr gs e
    rw [h.secs] at ho; cases ho; cases hc
  · intro q hq e
    obtain ⟨o, ho, hc⟩ := hr q e
    rcases h.pend.2 with ⟨h1, _⟩ | ⟨g, cap, cur, h1, _, h2, _⟩
    · rw [h1] at hq; cases hq
    · rw [h1] at hq
      obtain rfl : g = q := by simpa [Value.ownBlock] using hq
      rw [h2] at ho; cases ho; cases hc
theorem DiskIs.cells_own {w : World} {b gs cs : Nat} {Cs : Array Value} {pv : Value} {S : List (List UInt8)} {L : List (Nat × List UInt8)} (h : DiskIs w b gs cs Cs pv S L) {q : Nat} {o : Obj} (hq : q = b ∨ q = gs ∨ pv.ownBlock = some q) (ho : w.heap[q]? = some o) : o.isCells = true := by
  rcases hq with rfl | rfl | hq
  · rw [h.here] at ho; cases ho; rfl
  · rw [h.secs] at ho; cases ho; rfl
  · rcases h.pend.2 with ⟨h1, _⟩ | ⟨g, cap, cur, h1, _, h2, _⟩
    · rw [h1] at hq; cases hq
    · rw [h1] at hq
      obtain rfl : g = q := by simpa [Value.ownBlock] using hq
      rw [h2] at ho; cases ho; rfl

theorem chunk_take (T : List UInt8) (x : Nat) : chunk T x = (T.drop (x * 256)).take (min 256 (T.length - x * 256)) := by
  unfold chunk
  rcases Nat.le_total 256 (T.length - x * 256) with h | h
  · rw [Nat.min_eq_left h]
  · rw [Nat.min_eq_right h, List.take_of_length_le (by rw [List.length_drop]; exact h), List.take_of_length_le (by rw [List.length_drop]; exact Nat.le_refl _)]
theorem piece_bi {w : World} {gt tn : Nat} {T : List UInt8} (h : BI w (some ⟨gt, 0, none⟩) tn T) (x : Nat) (hl : T.length = tn) : BI w (some ⟨gt, 0 + x * 256, none⟩) (min 256 (tn - x * 256)) (chunk T x) := by
  rw [chunk_take, hl]
  by_cases h0 : min 256 (tn - x * 256) = 0
  · rw [h0]; exact ⟨by simp, .inl rfl⟩
  · exact h.cut (x * 256) (min 256 (tn - x * 256)) (by omega) gt 0 rfl

/-- Between two rounds: the disk has got some of the pieces. -/
def ForceI (Wl : World) (b gs cs : Nat) (Cs : Array Value) (pv : Value) (S : List (List UInt8)) (L : List (Nat × List UInt8)) (T : List UInt8) (first dur Bp : Nat) (pre : List Nat) (W : World) : Prop :=
  ∃ pv', DiskIs W b gs cs Cs pv' S (L ++ forced T (first + dur / 256) pre) ∧ (pv'.ownBlock = pv.ownBlock ∨ ∃ q, pv'.ownBlock = some q ∧ Wl.heap.size ≤ q) ∧ W.heap[Bp]? = some (.cells #[.int .i64 ((dur / 256 + pre.length : Nat) : Int)] 3 (0, 0)) ∧ Fr Wl W (fun q => q = b ∨ pv.ownBlock = some q ∨ q = Bp)
theorem forceI_own (Wl : World) (b gs cs : Nat) (Cs : Array Value) (pv : Value) (S : List (List UInt8)) (L : List (Nat × List UInt8)) (T : List UInt8) (first dur Bp : Nat) : OwnFrom Wl.heap.size (ForceI Wl b gs cs Cs pv S L T first dur Bp) := by
  rintro pre A B row ⟨pv', hd, hp, hb, hf⟩ hg hr
  refine ⟨pv', hd.turned hg (fun r e => (hr r e).2), hp, ?_, (hf.trans (Fr.grown hg)).mono ?_⟩
  · refine ((Fr.grown hg).block Bp (Array.getElem?_eq_some_iff.1 hb).1 ?_).trans hb
    intro e
    obtain ⟨_, o, ho, hc⟩ := hr Bp e
    rw [hb] at ho; cases ho; cases hc
  · intro k hk h1
    rcases h1 with h1 | h1
    · exact h1
    · have := (hr k h1).1; omega

/-- How a body is left: at its end or by a return. -/
def leaves (n : Nat) (fn : Func) (R : Ending → World → Prop) : Exit → Act → World → Prop
  | .normal, a, w | .ret, a, w => LeavesInM Fence.wide n Try.prog fn a.tmps R a.defers .returning w
  | _, _, _ => False
theorem leaves_post {n : Nat} {fn : Func} {R : Ending → World → Prop} : ∀ e a w, leaves n fn R e a w → bodyPostM Fence.wide n Try.prog fn R e a w
  | .normal, _, _, h => h
  | .ret, _, _, h => h
  | .exit _, _, _, h => h.elim
  | .goto _, _, _, h => h.elim
  | .panic _, _, _, h => h.elim
  | .outgrown, _, _, h => h.elim

/-- What Force leaves behind. -/
def ForcePost (w : World) (b gs cs : Nat) (pv : Value) (S : List (List UInt8)) (L : List (Nat × List UInt8)) (T : List UInt8) (g first count tn dur sum : Nat) (mark : Int) (en : Nat) : Ending → World → Prop :=
  fun x w' => x = .returned (.tuple #[]) ∧
      (((mark ≤ dur ∨ dur = en) ∧ Fr w w' (fun _ => False)) ∨
       ((dur : Int) < mark ∧ dur ≠ en ∧ ∃ Cs' ta' tc', DiskIs w' b gs cs Cs' (.slice none 0 0) (laysTo S (L ++ forced T (first + dur / 256) (List.range ((tn + 255) / 256))) (fun _ => some 256) (L ++ forced T (first + dur / 256) (List.range ((tn + 255) / 256))).length) [] ∧
        LogAt w' g b first count ta' ((en) % 256) tc' (en) sum ∧ OwnB w' (.slice ta' ((en) % 256) tc') (T.drop ((en) / 256 * 256 - dur / 256 * 256)) ∧
        (∀ q, (Value.slice ta' ((en) % 256) tc').ownBlock = some q → w.heap.size ≤ q) ∧ Fr w w' (fun k => k = b ∨ k = gs ∨ pv.ownBlock = some k ∨ k = g)))

set_option maxRecDepth 100000 in
set_option maxHeartbeats 4000000 in
theorem force_log {w : World} {b gs cs : Nat} {Cs : Array Value} {pv : Value} {S : List (List UInt8)} {L : List (Nat × List UInt8)} (h : DiskIs w b gs cs Cs pv S L)
    {g first count : Nat} {ta : Option Addr} {tn tc dur sum : Nat} (hl : LogAt w g b first count ta tn tc dur sum) (T : List UInt8) (hot : OwnB w (.slice ta tn tc) T) (htg : (Value.slice ta tn tc).ownBlock ≠ some g)
    (htb : ∀ q, (Value.slice ta tn tc).ownBlock = some q → q ≠ b ∧ q ≠ gs ∧ pv.ownBlock ≠ some q) (hgb : g ≠ b) (hgg : g ≠ gs) (hpg : pv.ownBlock ≠ some g) (hfc : first + count ≤ S.length) (hS4 : S.length ≤ 4096) (hL : L.length ≤ 1048576)
    (hen : dur / 256 * 256 + tn ≤ count * 256) (hdt : dur % 256 ≤ tn) (mark : Int) :
    Calls Try.prog 102 #[.pointer (some ⟨g, 0, none⟩), .int .i64 mark] w (ForcePost w b gs cs pv S L T g first count tn dur sum mark (dur / 256 * 256 + tn)) := by
  obtain ⟨en, hene⟩ : ∃ en, en = dur / 256 * 256 + tn := ⟨_, rfl⟩
  rw [← hene] at hen ⊢
  have hde : dur ≤ en := by omega
  have hdur : dur ≤ 1048576 := by omega
  have htn : tn ≤ 1048576 := by omega
  have hwe : ∀ V, LogAt V g b first count ta tn tc dur sum → Calls Try.prog 104 #[.pointer (some ⟨g, 0, none⟩)] V fun e w' => e = .returned (.int .i64 (en : Int)) ∧ Fr V w' (fun _ => False) := fun V hV => by
    have h1 := wend_any hV hdur htn
    rwa [show (dur : Int) / 256 * 256 + (tn : Int) = (en : Int) by omega] at h1
  have hwd : ∀ V, LogAt V g b first count ta tn tc dur sum → Calls Try.prog 103 #[.pointer (some ⟨g, 0, none⟩)] V fun e w' => e = .returned (.int .i64 (dur : Int)) ∧ w' = V := fun V hV => durable_any hV
  have HD := hide h
  have HL := hide hl
  have HT := hide hot
  have HTB := hide htb
  have HEN := hide hene
  have FA := Fr.alloc w (.cells #[.pointer (some ⟨g, 0, none⟩)] 49) (fun _ => False)
  have hgl : g < w.heap.size := World.block_lt_of_cell? w _ hl.c0
  have HLA := hide (hl.fr FA (fun h => h))
  have HBX := hide (heap_alloc_new w (.cells #[.pointer (some ⟨g, 0, none⟩)] 49))
  have HFA := hide FA
  have hsz0 : (w.alloc (.cells #[.pointer (some ⟨g, 0, none⟩)] 49)).heap.size = w.heap.size + 1 := by simp
  clear h hl hot htb hene FA
  refine (callsIn_wide (n := 3)).1 ?_
  refine callsIn_of_wp_marks Try.func102 rfl trivial ?_ rfl
  simp only [Try.ntmps102, List.size_toArray, List.length_cons, List.length_nil, Nat.reduceAdd, Nat.reduceSub, Array.replicate_succ, Array.replicate_zero, List.push_toArray, List.append_toArray, List.nil_append, List.cons_append]
  refine wpIn_mono ?_ leaves_post
  refine wpIn_wide.2 ?_
  go_wp2_with fail
  generalize w.alloc (.cells #[.pointer (some ⟨g, 0, none⟩)] 49) = W0 at *
  obtain ⟨Bl, hBl⟩ : ∃ Bl, Bl = w.heap.size := ⟨_, rfl⟩
  rw [← hBl] at HBX hsz0 ⊢
  have FD := Fr.drew W0 (fun _ => False)
  have hgB : g ≠ Bl := by omega
  have hBll : Bl < W0.heap.size := by omega
  have HBl := hide hBl
  clear hBl hsz0
  have hSx : ∀ V, Fr W0 V (fun _ => False) → (LogAt V g b first count ta tn tc dur sum ∧ V.cell? ⟨Bl, 0, none⟩ = some (.pointer (some ⟨g, 0, none⟩))) := fun V hV => ⟨HLA.out.fr hV (fun h => h), by
    rw [cell_of_row _ _ _ _ _ _ ((hV.block Bl hBll (fun h => h)).trans HBX.out)]; rfl⟩
  have hS := hSx _ FD
  by_cases hm : mark ≤ dur
  · have HM := hide hm
    refine wp_region_K (fun _ => true) (fun V => LogAt V g b first count ta tn tc dur sum ∧ V.cell? ⟨Bl, 0, none⟩ = some (.pointer (some ⟨g, 0, none⟩))) (by kernel_rfl) ?_
    refine wpAnyK_takeTo 0 (some 8) (.int .i64 mark) [] rfl rfl (by kernel_rfl) (by kernel_rfl) (by kernel_rfl) (by kernel_rfl) (fun _ _ _ h => h) hS (Or.inl ⟨rfl, fun w1 hw1 => by go_simp⟩) ?_
    simp only [Act.put, List.setIfInBounds_toArray, List.set_cons_zero, List.set_cons_succ]
    refine wpAnyK_takeTo 1 (some 9) (.pointer (some ⟨g, 0, none⟩)) [] rfl rfl (by kernel_rfl) (by kernel_rfl) (by kernel_rfl) (by kernel_rfl) (fun _ _ _ h => h) hS (Or.inl ⟨rfl, fun w1 hw1 => by obtain ⟨⟨x0, x1, x2, x3, x4, x5, _⟩, y0⟩ := hw1; go_simp⟩) ?_
    simp only [Act.put, List.setIfInBounds_toArray, List.set_cons_zero, List.set_cons_succ]
    refine wpAnyK_one (i := 2) (by kernel_rfl) rfl rfl ?_
    refine wp_call_to (some 10) rfl 103 #[.pointer (some ⟨g, 0, none⟩)] (by go_simp) (hwd _ hS.1) ?_
    rintro x V1 ⟨rfl, hV⟩
    obtain rfl := hV.symm
    clear hV
    refine ⟨_, rfl, fun _ => hS, ?_⟩
    simp only [Act.put, List.setIfInBounds_toArray, List.set_cons_zero, List.set_cons_succ]
    refine wpAnyK_takeTo 3 (some 11) (.bool true) [] rfl rfl (by kernel_rfl) (by kernel_rfl) (by kernel_rfl) (by kernel_rfl) (fun _ _ _ h => h) hS (Or.inl ⟨rfl, fun w1 hw1 => by go_simp; first | done | simp [hm]⟩) ?_
    simp only [Act.put, List.setIfInBounds_toArray, List.set_cons_zero, List.set_cons_succ]
    refine wpAnyK_takeTo 4 (some 12) (.bool true) [] rfl rfl (by kernel_rfl) (by kernel_rfl) (by kernel_rfl) (by kernel_rfl) (fun _ _ _ h => h) hS (Or.inl ⟨rfl, fun w1 hw1 => by go_simp⟩) ?_
    simp only [Act.put, List.setIfInBounds_toArray, List.set_cons_zero, List.set_cons_succ]
    refine wpAnyK_takeTo 5 (some 13) (undef) [] rfl rfl (by kernel_rfl) (by kernel_rfl) (by kernel_rfl) (by kernel_rfl) (fun _ _ _ h => h) hS (Or.inr ⟨rfl, rfl⟩) ?_
    simp only [Act.put, List.setIfInBounds_toArray, List.set_cons_zero, List.set_cons_succ]
    refine wpAnyK_takeTo 6 (some 14) (undef) [] rfl rfl (by kernel_rfl) (by kernel_rfl) (by kernel_rfl) (by kernel_rfl) (fun _ _ _ h => h) hS (Or.inr ⟨rfl, rfl⟩) ?_
    simp only [Act.put, List.setIfInBounds_toArray, List.set_cons_zero, List.set_cons_succ]
    refine wpAnyK_takeTo 7 (some 15) (undef) [] rfl rfl (by kernel_rfl) (by kernel_rfl) (by kernel_rfl) (by kernel_rfl) (fun _ _ _ h => h) hS (Or.inr ⟨rfl, rfl⟩) ?_
    simp only [Act.put, List.setIfInBounds_toArray, List.set_cons_zero, List.set_cons_succ]
    refine wpAnyK_takeTo 8 (some 16) (undef) [] rfl rfl (by kernel_rfl) (by kernel_rfl) (by kernel_rfl) (by kernel_rfl) (fun _ _ _ h => h) hS (Or.inr ⟨rfl, rfl⟩) ?_
    simp only [Act.put, List.setIfInBounds_toArray, List.set_cons_zero, List.set_cons_succ]
    refine wpAnyK_takeTo 9 (some 17) (undef) [] rfl rfl (by kernel_rfl) (by kernel_rfl) (by kernel_rfl) (by kernel_rfl) (fun _ _ _ h => h) hS (Or.inr ⟨rfl, rfl⟩) ?_
    simp only [Act.put, List.setIfInBounds_toArray, List.set_cons_zero, List.set_cons_succ]
    refine wpAnyK_takeTo 10 (some 18) (undef) [] rfl rfl (by kernel_rfl) (by kernel_rfl) (by kernel_rfl) (by kernel_rfl) (fun _ _ _ h => h) hS (Or.inr ⟨rfl, rfl⟩) ?_
    simp only [Act.put, List.setIfInBounds_toArray, List.set_cons_zero, List.set_cons_succ]
    refine wpAnyK_takeTo 11 (some 19) (undef) [] rfl rfl (by kernel_rfl) (by kernel_rfl) (by kernel_rfl) (by kernel_rfl) (fun _ _ _ h => h) hS (Or.inr ⟨rfl, rfl⟩) ?_
    simp only [Act.put, List.setIfInBounds_toArray, List.set_cons_zero, List.set_cons_succ]
    refine wpAnyK_takeTo 12 (some 20) (.bool true) [] rfl rfl (by kernel_rfl) (by kernel_rfl) (by kernel_rfl) (by kernel_rfl) (fun _ _ _ h => h) hS (Or.inl ⟨rfl, fun w1 hw1 => by go_simp⟩) ?_
    simp only [Act.put, List.setIfInBounds_toArray, List.set_cons_zero, List.set_cons_succ]
    refine wpAnyK_done (by kernel_rfl) ?_ _
    go_wp2
    exact ⟨_, results_none rfl _ _ _, rfl, .inl ⟨.inl HM.out, (HFA.out.trans FD).mono (by simp)⟩⟩
  · by_cases hde2 : (dur : Int) = (en : Int)
    · have HM := hide hde2
      obtain rfl : dur = en := by omega
      have hde2 : True := trivial
      refine wp_region_K (fun _ => true) (fun V => LogAt V g b first count ta tn tc dur sum ∧ V.cell? ⟨Bl, 0, none⟩ = some (.pointer (some ⟨g, 0, none⟩))) (by kernel_rfl) ?_
      refine wpAnyK_takeTo 0 (some 8) (.int .i64 mark) [] rfl rfl (by kernel_rfl) (by kernel_rfl) (by kernel_rfl) (by kernel_rfl) (fun _ _ _ h => h) hS (Or.inl ⟨rfl, fun w1 hw1 => by go_simp⟩) ?_
      simp only [Act.put, List.setIfInBounds_toArray, List.set_cons_zero, List.set_cons_succ]
      refine wpAnyK_takeTo 1 (some 9) (.pointer (some ⟨g, 0, none⟩)) [] rfl rfl (by kernel_rfl) (by kernel_rfl) (by kernel_rfl) (by kernel_rfl) (fun _ _ _ h => h) hS (Or.inl ⟨rfl, fun w1 hw1 => by obtain ⟨⟨x0, x1, x2, x3, x4, x5, _⟩, y0⟩ := hw1; go_simp⟩) ?_
      simp only [Act.put, List.setIfInBounds_toArray, List.set_cons_zero, List.set_cons_succ]
      refine wpAnyK_one (i := 2) (by kernel_rfl) rfl rfl ?_
      refine wp_call_to (some 10) rfl 103 #[.pointer (some ⟨g, 0, none⟩)] (by go_simp) (hwd _ hS.1) ?_
      rintro x V1 ⟨rfl, hV⟩
      obtain rfl := hV.symm
      clear hV
      refine ⟨_, rfl, fun _ => hS, ?_⟩
      simp only [Act.put, List.setIfInBounds_toArray, List.set_cons_zero, List.set_cons_succ]
      refine wpAnyK_takeTo 3 (some 11) (.bool false) [] rfl rfl (by kernel_rfl) (by kernel_rfl) (by kernel_rfl) (by kernel_rfl) (fun _ _ _ h => h) hS (Or.inl ⟨rfl, fun w1 hw1 => by go_simp; first | done | simp [hm]⟩) ?_
      simp only [Act.put, List.setIfInBounds_toArray, List.set_cons_zero, List.set_cons_succ]
      refine wpAnyK_takeTo 4 (some 12) (.bool false) [] rfl rfl (by kernel_rfl) (by kernel_rfl) (by kernel_rfl) (by kernel_rfl) (fun _ _ _ h => h) hS (Or.inl ⟨rfl, fun w1 hw1 => by go_simp⟩) ?_
      simp only [Act.put, List.setIfInBounds_toArray, List.set_cons_zero, List.set_cons_succ]
      refine wpAnyK_takeTo 5 (some 13) (.pointer (some ⟨g, 0, none⟩)) [] rfl rfl (by kernel_rfl) (by kernel_rfl) (by kernel_rfl) (by kernel_rfl) (fun _ _ _ h => h) hS (Or.inl ⟨rfl, fun w1 hw1 => by obtain ⟨⟨x0, x1, x2, x3, x4, x5, _⟩, y0⟩ := hw1; go_simp⟩) ?_
      simp only [Act.put, List.setIfInBounds_toArray, List.set_cons_zero, List.set_cons_succ]
      refine wpAnyK_takeTo 6 (some 14) (.pointer (some ⟨g, 0, none⟩)) [] rfl rfl (by kernel_rfl) (by kernel_rfl) (by kernel_rfl) (by kernel_rfl) (fun _ _ _ h => h) hS (Or.inl ⟨rfl, fun w1 hw1 => by go_simp⟩) ?_
      simp only [Act.put, List.setIfInBounds_toArray, List.set_cons_zero, List.set_cons_succ]
      refine wpAnyK_takeTo 7 (some 15) (.pointer (some ⟨g, 4, none⟩)) [] rfl rfl (by kernel_rfl) (by kernel_rfl) (by kernel_rfl) (by kernel_rfl) (fun _ _ _ h => h) hS (Or.inl ⟨rfl, fun w1 hw1 => by go_simp⟩) ?_
      simp only [Act.put, List.setIfInBounds_toArray, List.set_cons_zero, List.set_cons_succ]
      refine wpAnyK_takeTo 8 (some 16) (.int .i64 (dur : Int)) [] rfl rfl (by kernel_rfl) (by kernel_rfl) (by kernel_rfl) (by kernel_rfl) (fun _ _ _ h => h) hS (Or.inl ⟨rfl, fun w1 hw1 => by obtain ⟨⟨x0, x1, x2, x3, x4, x5, _⟩, y0⟩ := hw1; go_simp⟩) ?_
      simp only [Act.put, List.setIfInBounds_toArray, List.set_cons_zero, List.set_cons_succ]
      refine wpAnyK_takeTo 9 (some 17) (.pointer (some ⟨g, 0, none⟩)) [] rfl rfl (by kernel_rfl) (by kernel_rfl) (by kernel_rfl) (by kernel_rfl) (fun _ _ _ h => h) hS (Or.inl ⟨rfl, fun w1 hw1 => by obtain ⟨⟨x0, x1, x2, x3, x4, x5, _⟩, y0⟩ := hw1; go_simp⟩) ?_
      simp only [Act.put, List.setIfInBounds_toArray, List.set_cons_zero, List.set_cons_succ]
      refine wpAnyK_one (i := 10) (by kernel_rfl) rfl rfl ?_
      refine wp_call_to (some 18) rfl 104 #[.pointer (some ⟨g, 0, none⟩)] (by go_simp) (hwe _ hS.1) ?_
      rintro x V2 ⟨rfl, q2⟩
      have G2 : Fr W0 V2 (fun _ => False) := (FD.trans q2).mono (by simp)
      have hS := hSx _ G2
      refine ⟨_, rfl, fun _ => hS, ?_⟩
      simp only [Act.put, List.setIfInBounds_toArray, List.set_cons_zero, List.set_cons_succ]
      refine wpAnyK_takeTo 11 (some 19) (.bool true) [] rfl rfl (by kernel_rfl) (by kernel_rfl) (by kernel_rfl) (by kernel_rfl) (fun _ _ _ h => h) hS (Or.inl ⟨rfl, fun w1 hw1 => by go_simp; first | done | simp [hde2] | omega⟩) ?_
      simp only [Act.put, List.setIfInBounds_toArray, List.set_cons_zero, List.set_cons_succ]
      refine wpAnyK_takeTo 12 (some 20) (.bool true) [] rfl rfl (by kernel_rfl) (by kernel_rfl) (by kernel_rfl) (by kernel_rfl) (fun _ _ _ h => h) hS (Or.inl ⟨rfl, fun w1 hw1 => by go_simp⟩) ?_
      simp only [Act.put, List.setIfInBounds_toArray, List.set_cons_zero, List.set_cons_succ]
      refine wpAnyK_done (by kernel_rfl) ?_ _
      go_wp2
      exact ⟨_, results_none rfl _ _ _, rfl, .inl ⟨.inr rfl, (HFA.out.trans G2).mono (by simp)⟩⟩
    · have HM := hide hm
      have HDE := hide hde2
      refine wp_region_K (fun _ => true) (fun V => LogAt V g b first count ta tn tc dur sum ∧ V.cell? ⟨Bl, 0, none⟩ = some (.pointer (some ⟨g, 0, none⟩))) (by kernel_rfl) ?_
      refine wpAnyK_takeTo 0 (some 8) (.int .i64 mark) [] rfl rfl (by kernel_rfl) (by kernel_rfl) (by kernel_rfl) (by kernel_rfl) (fun _ _ _ h => h) hS (Or.inl ⟨rfl, fun w1 hw1 => by go_simp⟩) ?_
      simp only [Act.put, List.setIfInBounds_toArray, List.set_cons_zero, List.set_cons_succ]
      refine wpAnyK_takeTo 1 (some 9) (.pointer (some ⟨g, 0, none⟩)) [] rfl rfl (by kernel_rfl) (by kernel_rfl) (by kernel_rfl) (by kernel_rfl) (fun _ _ _ h => h) hS (Or.inl ⟨rfl, fun w1 hw1 => by obtain ⟨⟨x0, x1, x2, x3, x4, x5, _⟩, y0⟩ := hw1; go_simp⟩) ?_
      simp only [Act.put, List.setIfInBounds_toArray, List.set_cons_zero, List.set_cons_succ]
      refine wpAnyK_one (i := 2) (by kernel_rfl) rfl rfl ?_
      refine wp_call_to (some 10) rfl 103 #[.pointer (some ⟨g, 0, none⟩)] (by go_simp) (hwd _ hS.1) ?_
      rintro x V1 ⟨rfl, hV⟩
      obtain rfl := hV.symm
      clear hV
      refine ⟨_, rfl, fun _ => hS, ?_⟩
      simp only [Act.put, List.setIfInBounds_toArray, List.set_cons_zero, List.set_cons_succ]
      refine wpAnyK_takeTo 3 (some 11) (.bool false) [] rfl rfl (by kernel_rfl) (by kernel_rfl) (by kernel_rfl) (by kernel_rfl) (fun _ _ _ h => h) hS (Or.inl ⟨rfl, fun w1 hw1 => by go_simp; first | done | simp [hm]⟩) ?_
      simp only [Act.put, List.setIfInBounds_toArray, List.set_cons_zero, List.set_cons_succ]
      refine wpAnyK_takeTo 4 (some 12) (.bool false) [] rfl rfl (by kernel_rfl) (by kernel_rfl) (by kernel_rfl) (by kernel_rfl) (fun _ _ _ h => h) hS (Or.inl ⟨rfl, fun w1 hw1 => by go_simp⟩) ?_
      simp only [Act.put, List.setIfInBounds_toArray, List.set_cons_zero, List.set_cons_succ]
      refine wpAnyK_takeTo 5 (some 13) (.pointer (some ⟨g, 0, none⟩)) [] rfl rfl (by kernel_rfl) (by kernel_rfl) (by kernel_rfl) (by kernel_rfl) (fun _ _ _ h => h) hS (Or.inl ⟨rfl, fun w1 hw1 => by obtain ⟨⟨x0, x1, x2, x3, x4, x5, _⟩, y0⟩ := hw1; go_simp⟩) ?_
      simp only [Act.put, List.setIfInBounds_toArray, List.set_cons_zero, List.set_cons_succ]
      refine wpAnyK_takeTo 6 (some 14) (.pointer (some ⟨g, 0, none⟩)) [] rfl rfl (by kernel_rfl) (by kernel_rfl) (by kernel_rfl) (by kernel_rfl) (fun _ _ _ h => h) hS (Or.inl ⟨rfl, fun w1 hw1 => by go_simp⟩) ?_
      simp only [Act.put, List.setIfInBounds_toArray, List.set_cons_zero, List.set_cons_succ]
      refine wpAnyK_takeTo 7 (some 15) (.pointer (some ⟨g, 4, none⟩)) [] rfl rfl (by kernel_rfl) (by kernel_rfl) (by kernel_rfl) (by kernel_rfl) (fun _ _ _ h => h) hS (Or.inl ⟨rfl, fun w1 hw1 => by go_simp⟩) ?_
      simp only [Act.put, List.setIfInBounds_toArray, List.set_cons_zero, List.set_cons_succ]
      refine wpAnyK_takeTo 8 (some 16) (.int .i64 (dur : Int)) [] rfl rfl (by kernel_rfl) (by kernel_rfl) (by kernel_rfl) (by kernel_rfl) (fun _ _ _ h => h) hS (Or.inl ⟨rfl, fun w1 hw1 => by obtain ⟨⟨x0, x1, x2, x3, x4, x5, _⟩, y0⟩ := hw1; go_simp⟩) ?_
      simp only [Act.put, List.setIfInBounds_toArray, List.set_cons_zero, List.set_cons_succ]
      refine wpAnyK_takeTo 9 (some 17) (.pointer (some ⟨g, 0, none⟩)) [] rfl rfl (by kernel_rfl) (by kernel_rfl) (by kernel_rfl) (by kernel_rfl) (fun _ _ _ h => h) hS (Or.inl ⟨rfl, fun w1 hw1 => by obtain ⟨⟨x0, x1, x2, x3, x4, x5, _⟩, y0⟩ := hw1; go_simp⟩) ?_
      simp only [Act.put, List.setIfInBounds_toArray, List.set_cons_zero, List.set_cons_succ]
      refine wpAnyK_one (i := 10) (by kernel_rfl) rfl rfl ?_
      refine wp_call_to (some 18) rfl 104 #[.pointer (some ⟨g, 0, none⟩)] (by go_simp) (hwe _ hS.1) ?_
      rintro x V2 ⟨rfl, q2⟩
      have G2 : Fr W0 V2 (fun _ => False) := (FD.trans q2).mono (by simp)
      have hS := hSx _ G2
      refine ⟨_, rfl, fun _ => hS, ?_⟩
      simp only [Act.put, List.setIfInBounds_toArray, List.set_cons_zero, List.set_cons_succ]
      refine wpAnyK_takeTo 11 (some 19) (.bool false) [] rfl rfl (by kernel_rfl) (by kernel_rfl) (by kernel_rfl) (by kernel_rfl) (fun _ _ _ h => h) hS (Or.inl ⟨rfl, fun w1 hw1 => by go_simp; first | done | simp [hde2] | omega⟩) ?_
      simp only [Act.put, List.setIfInBounds_toArray, List.set_cons_zero, List.set_cons_succ]
      refine wpAnyK_takeTo 12 (some 20) (.bool false) [] rfl rfl (by kernel_rfl) (by kernel_rfl) (by kernel_rfl) (by kernel_rfl) (fun _ _ _ h => h) hS (Or.inl ⟨rfl, fun w1 hw1 => by go_simp⟩) ?_
      simp only [Act.put, List.setIfInBounds_toArray, List.set_cons_zero, List.set_cons_succ]
      refine wpAnyK_done (by kernel_rfl) ?_ _
      have y4 := hS.1.c4
      have y3 := hS.1.c3
      have yb := hS.2
      have G3 : Fr W0 (V2.alloc (.cells #[.int .i64 ((dur : Int) / 256)] 3)) (fun _ => False) := (G2.trans (Fr.alloc V2 _ (fun _ => False))).mono (by simp)
      have y3' := (hSx _ G3).1.c3
      have yb' := (hSx _ G3).2
      have HM := hide hm
      have HDE := hide hde2
      clear hS hm hde2
      go_wp2_with fail
      refine (chunk_any ta tn tc _).mono ?_
      rintro x W1 ⟨rfl, hW1⟩
      obtain ⟨Wp, hWp⟩ : ∃ Wp, Wp = V2.alloc (.cells #[.int .i64 ((dur : Int) / 256)] 3) := ⟨_, rfl⟩
      rw [← hWp] at hW1 G3 ⊢
      have hsp : Wp.heap.size = V2.heap.size + 1 := by rw [hWp]; simp
      have b0 : Wp.heap[V2.heap.size]? = some (.cells #[.int .i64 ((dur : Int) / 256)] 3 (0, 0)) := by rw [hWp]; exact heap_alloc_new V2 _
      have FB1 := Fr.alloc Wp (.cells #[.slice ta tn tc] 45) (fun _ => False)
      have b1 := heap_alloc_new Wp (.cells #[.slice ta tn tc] 45)
      have hs1 : (Wp.alloc (.cells #[.slice ta tn tc] 45)).heap.size = Wp.heap.size + 1 := by simp
      generalize Wp.alloc (.cells #[.slice ta tn tc] 45) = Wq at *
      have FB2 := Fr.alloc Wq (.cells #[.int .i64 256] 3) (fun _ => False)
      have b2 := heap_alloc_new Wq (.cells #[.int .i64 256] 3)
      have hs2 : (Wq.alloc (.cells #[.int .i64 256] 3)).heap.size = Wq.heap.size + 1 := by simp
      rw [← hW1] at FB2 b2 hs2
      obtain ⟨Bp, hBp⟩ : ∃ Bp, Bp = V2.heap.size := ⟨_, rfl⟩
      obtain ⟨B1, hB1⟩ : ∃ B1, B1 = Wp.heap.size := ⟨_, rfl⟩
      obtain ⟨B2, hB2⟩ : ∃ B2, B2 = Wp.heap.size + 1 := ⟨_, rfl⟩
      have HP0 := hide ((FB2.block Bp (by omega) (fun h => h)).trans ((FB1.block Bp (by omega) (fun h => h)).trans (show Wp.heap[Bp]? = some (.cells #[.int .i64 ((dur : Int) / 256)] 3 (0, 0)) by rw [hBp]; exact b0)))
      have HB1 := hide ((FB2.block B1 (by omega) (fun h => h)).trans (show Wq.heap[B1]? = some (.cells #[.slice ta tn tc] 45 (0, 0)) by rw [hB1]; exact b1))
      have HB2 : Hid (W1.heap[B2]? = some (.cells #[.int .i64 256] 3 (0, 0))) := by show _ = _; rw [hB2, ← hs1]; exact b2
      have FL : Fr W0 W1 (fun _ => False) := ((G3.trans FB1).trans FB2).mono (by simp)
      have hV2 := G2.size
      have i1 : W0.heap.size ≤ Bp := by omega
      have i2 : Bp < B1 := by omega
      have i3 : B1 < B2 := by omega
      have i4 : B2 < W1.heap.size := by omega
      rw [← hBp, ← hB2, ← hB1]
      have HLL := hide (hSx _ FL).1
      have HBL := hide ((FL.block Bl hBll (fun h => h)).trans HBX.out)
      have HFL := hide (HFA.out.trans FL)
      have htn0 : 0 < tn := by have := HEN.out; have := HDE.out; omega
      obtain ⟨gt, hta, hcap⟩ : ∃ gt, ta = some ⟨gt, 0, none⟩ ∧ tn ≤ tc := by
        rcases HT.out.2 with ⟨h1, _⟩ | ⟨q, cap, cur, h1, _, _, h2, _⟩
        · cases h1; omega
        · have hlen := HT.out.len
          cases h1
          exact ⟨q, rfl, by omega⟩
      subst hta
      have hgtw : gt < w.heap.size := (HT.out.lt gt rfl).2
      obtain ⟨hgt1, hgt2, hgt3⟩ := HTB.out gt rfl
      have hgt4 : gt ≠ g := fun h => htg (by rw [h]; rfl)
      have HBT := hide (HT.out.bi.fr HFL.out (fun _ _ _ _ h => h.elim id id))
      have hTl : T.length = tn := HT.out.len
      have HD1 := hide (HD.out.kept ((HFL.out).mono (by simp)))
      obtain ⟨hbw, hgsw, hpw⟩ := HD.out.bl
      have HPW := hide hpw
      have hBlw : w.heap.size ≤ Bl := by have := HBl.out; omega
      have hBpw : Bl < Bp := by omega
      have HFA0 := hide HFA.out
      clear hW1 G3 G2 FD q2 FB1 FB2 b0 b1 b2 hs1 hs2 hsp hWp hBp hB1 hB2 y4 y3 yb y3' yb' hV2 hpw HLA HBX FL hSx hBll HFA i1
      have hBeq : (dur : Int) / 256 = ((dur / 256 : Nat) : Int) := by omega
      have HBE := hide hBeq
      clear hBeq
      go_wp2_with fail
      refine (wpIn_wide (n := 3)).1 ?_
      refine wpIn_rangeFunc_ownG (α := Nat) rfl (by omega) (gf := 106) (lb := #[.pointer (some ⟨B1, 0, none⟩), .pointer (some ⟨B2, 0, none⟩)]) rfl trivial (enters_of Try.func106 (by kernel_rfl) rfl)
        (chunk_stops 2 B1 B2 gt 0 tn tc htn hcap W1 HB1.out HB2.out) (fun h k => ⟨k.1.trans h.1, k.2.trans h.2⟩) (fun V q o o' hq _ _ _ => ⟨World.putObj_heap_other (by omega), World.putObj_heap_other (by omega)⟩) (Below.refl _ _) (fun _ => rfl)
        (ForceI W1 b gs cs Cs pv S L T first dur Bp) (fun _ _ _ => False) (forceI_own _ _ _ _ _ _ _ _ _ _ _ _) (fun _ _ _ _ _ hs _ _ => hs) ?start
        (fun x => { tmps := #[.pointer (some ⟨g, 0, none⟩), .int .i64 mark, .pointer (some ⟨Bl, 0, none⟩), undef, .pointer (some ⟨Bp, 0, none⟩), .slice (some ⟨gt, 0 + x * 256, none⟩) (min 256 (tn - x * 256)) (min 256 (tn - x * 256)), undef, undef, .int .i64 mark, .pointer (some ⟨g, 0, none⟩), .int .i64 (dur : Int), .bool false, .bool false, .pointer (some ⟨g, 0, none⟩), .pointer (some ⟨g, 0, none⟩), .pointer (some ⟨g, 4, none⟩), .int .i64 (dur : Int), .pointer (some ⟨g, 0, none⟩), .int .i64 (en : Int), .bool false, .bool false, .pointer (some ⟨g, 0, none⟩), .pointer (some ⟨g, 0, none⟩), .pointer (some ⟨g, 4, none⟩), .int .i64 (dur : Int), .int .i64 ((dur : Int) / 256), .pointer (some ⟨g, 0, none⟩), .pointer (some ⟨g, 0, none⟩), .pointer (some ⟨g, 3, none⟩), .slice (some ⟨gt, 0, none⟩) tn tc, .func (.func 106) #[] #[.pointer (some ⟨B1, 0, none⟩), .pointer (some ⟨B2, 0, none⟩)], .slice (some ⟨gt, 0 + x * 256, none⟩) (min 256 (tn - x * 256)) (min 256 (tn - x * 256)), undef, undef, undef, undef, undef, undef, undef, undef, undef, undef, undef, undef, undef, undef, undef, undef, undef, undef, undef, undef, undef, undef, undef, undef, undef, undef, undef, undef, undef, undef, undef, undef, undef, undef, undef, undef, undef, undef, undef, undef, undef, undef, undef, undef], defers := [] }) ?assign ?body ?done ?stop
      case start =>
        refine ⟨pv, ?_, .inl rfl, ?_, Fr.refl _ _⟩
        · simpa [forced] using HD1.out
        · have := HP0.out; rw [HBE.out] at this; simpa using this
      case assign =>
        intro l x V K hK
        gi_wp2
        exact hK
      case stop =>
        rintro D c pre V _ _ h _
        exact h.elim
      case body =>
        rintro l pre x W ⟨pv', hd, hp, hb, hf⟩ hlen
        have HHD := hide hd
        have HHP := hide hp
        have HHB := hide hb
        have HHF := hide hf
        clear hd hp hb hf
        dsimp only
        have hXl : ¬ (Bl = b ∨ pv.ownBlock = some Bl ∨ Bl = Bp) := by
          rintro (h1 | h1 | h1)
          · omega
          · have := HPW.out _ h1; omega
          · omega
        have hXg : ¬ (g = b ∨ pv.ownBlock = some g ∨ g = Bp) := by
          rintro (h1 | h1 | h1)
          · exact hgb h1
          · exact hpg h1
          · omega
        have hXt : ¬ (gt = b ∨ pv.ownBlock = some gt ∨ gt = Bp) := by
          rintro (h1 | h1 | h1)
          · exact hgt1 h1
          · exact hgt3 h1
          · omega
        have HOW := hide (show ∀ q, pv'.ownBlock = some q → q < w.heap.size ∨ W1.heap.size ≤ q from fun q hq => by
          rcases HHP.out with h1 | ⟨k, h1, h2⟩
          · rw [h1] at hq; exact .inl (HPW.out q hq)
          · rw [h1] at hq; cases hq; exact .inr h2)
        have hWsz := HHF.out.size
        have FAz := Fr.alloc W (.cells (enc (zeros 256)).toArray 5) (fun _ => False)
        have hmk : ∀ V : World, (Instr.makeSlice 45 (.int .i64 256) (.int .i64 256)).run Try.prog V = .ok (.slice (some ⟨V.heap.size, 0, none⟩) 256 256) (V.alloc (.cells (enc (zeros 256)).toArray 5)) := fun V => run_madeN 256 (by omega) V
        have HBTx := hide (piece_bi (HBT.out.fr HHF.out (fun q off h1 _ h2 => by cases h1; exact hXt h2)) x hTl)
        obtain ⟨m, hm⟩ : ∃ m, m = min 256 (tn - x * 256) := ⟨_, rfl⟩
        obtain ⟨o, ho⟩ : ∃ o, o = 0 + x * 256 := ⟨_, rfl⟩
        rw [← hm, ← ho] at HBTx ⊢
        obtain ⟨W2, hcp, q1, q2, q3⟩ := run_copyB (W.alloc (.cells (enc (zeros 256)).toArray 5)) (some ⟨W.heap.size, 0, none⟩) 256 256 (some ⟨gt, o, none⟩) m m W.heap.size 0 (zeros 256) (chunk T x) (heap_alloc_new W _) (fun _ => rfl) (HBTx.out.fr FAz (fun _ _ _ _ h => h)) (by rw [length_zeros]; omega)
        have HQ1 := hide (show W2.heap[W.heap.size]? = some (.cells (enc (padC T x)).toArray 5 (0, 0)) from q1)
        have FW2 : Fr W W2 (fun _ => False) := (FAz.trans q2).mono (by intro k hk h1; rcases h1 with h1 | h1; exact h1; omega)
        have hW2s : W2.heap.size = W.heap.size + 1 := by rw [q3]; simp
        clear q1 q2 q3 hm ho
        gi_wp2_with fail
        obtain ⟨gx, hgx⟩ : ∃ gx, gx = W.heap.size := ⟨_, rfl⟩
        rw [← hgx] at HQ1 ⊢
        have FD2 := Fr.drew W2 (fun _ => False)
        have G2 : Fr W W2.drew (fun _ => False) := (FW2.trans FD2).mono (by simp)
        obtain ⟨pl, hpl⟩ : ∃ pl, pl = dur / 256 + pre.length := ⟨_, rfl⟩
        have HHB' : Hid (W.heap[Bp]? = some (.cells #[.int .i64 (pl : Int)] 3 (0, 0))) := by rw [hpl]; exact HHB.out
        have hplc : first + pl < S.length := by have := HEN.out; omega
        have HPL := hide hpl
        have hgxw : W1.heap.size ≤ gx := by omega
        have HGX := hide hgx
        have hWW : W.heap.size ≤ W2.drew.heap.size := G2.size
        have hgx2 : gx < W2.drew.heap.size := by show gx < W2.heap.size; omega
        clear hgx hpl hmk hcp
        have hSy : ∀ V, Fr W V (fun _ => False) → (V.cell? ⟨Bl, 0, none⟩ = some (.pointer (some ⟨g, 0, none⟩)) ∧ V.cell? ⟨Bp, 0, none⟩ = some (.int .i64 (pl : Int))) := fun V hV => ⟨by
          rw [cell_of_row _ _ _ _ _ _ ((hV.block Bl (by omega) (fun h => h)).trans ((HHF.out.block Bl (by omega) hXl).trans HBL.out))]; rfl, by
          rw [cell_of_row _ _ _ _ _ _ ((hV.block Bp (by omega) (fun h => h)).trans HHB'.out)]; rfl⟩
        have hS := hSy _ G2
        have HLW := hide (HLL.out.fr HHF.out hXg)
        have HLD := hide (HLW.out.fr G2 (fun h => h))
        have hLl : (L ++ forced T (first + dur / 256) pre).length ≤ 268435456 := by rw [List.length_append, forced_length]; omega
        have hogx : pv'.ownBlock ≠ some gx := fun h1 => by rcases HOW.out _ h1 with h2 | h2; omega; exact absurd (HHD.out.bl.2.2 _ h1) (by have := HGX.out; omega)
        have hog : pv'.ownBlock ≠ some g := fun h1 => by rcases HHP.out with h2 | ⟨k, h2, h3⟩; (rw [h2] at h1; exact hpg h1); (rw [h2] at h1; cases h1; omega)
        have hXp' : ¬ (Bp = b ∨ pv'.ownBlock = some Bp) := by
          rintro (h1 | h1)
          · omega
          · rcases HOW.out _ h1 with h2 | h2 <;> omega
        have hXl' : ¬ (Bl = b ∨ pv'.ownBlock = some Bl) := by
          rintro (h1 | h1)
          · omega
          · rcases HOW.out _ h1 with h2 | h2 <;> omega
        have hSz : ∀ (V : World) (X : Nat → Prop), Fr W2.drew V (fun k => k = b ∨ pv'.ownBlock = some k) → (V.cell? ⟨Bl, 0, none⟩ = some (.pointer (some ⟨g, 0, none⟩)) ∧ V.cell? ⟨Bp, 0, none⟩ = some (.int .i64 (pl : Int))) := fun V X hV => ⟨by
          rw [cell_of_row _ _ _ _ _ _ ((hV.block Bl (by omega) hXl').trans ((G2.block Bl (by omega) (fun h => h)).trans ((HHF.out.block Bl (by omega) hXl).trans HBL.out)))]; rfl, by
          rw [cell_of_row _ _ _ _ _ _ ((hV.block Bp (by omega) hXp').trans ((G2.block Bp (by omega) (fun h => h)).trans HHB'.out))]; rfl⟩
        refine wp_region_round (fun _ => true) (fun V => V.cell? ⟨Bl, 0, none⟩ = some (.pointer (some ⟨g, 0, none⟩)) ∧ V.cell? ⟨Bp, 0, none⟩ = some (.int .i64 (pl : Int))) (by kernel_rfl) (by kernel_rfl) (by rintro ⟨_, _, h⟩; exact h) ?_
        refine wpAnyK_takeTo 0 (some 36) (.pointer (some ⟨g, 0, none⟩)) [] rfl rfl (by kernel_rfl) (by kernel_rfl) (by kernel_rfl) (by kernel_rfl) (fun _ _ _ h => h) hS (Or.inl ⟨rfl, fun w1 hw1 => by obtain ⟨x0, x1⟩ := hw1; go_simp⟩) ?_
        simp only [Act.put, List.setIfInBounds_toArray, List.set_cons_zero, List.set_cons_succ]
        refine wpAnyK_takeTo 1 (some 37) (.pointer (some ⟨g, 0, none⟩)) [] rfl rfl (by kernel_rfl) (by kernel_rfl) (by kernel_rfl) (by kernel_rfl) (fun _ _ _ h => h) hS (Or.inl ⟨rfl, fun w1 hw1 => by go_simp⟩) ?_
        simp only [Act.put, List.setIfInBounds_toArray, List.set_cons_zero, List.set_cons_succ]
        refine wpAnyK_takeTo 2 (some 38) (.pointer (some ⟨g, 0, none⟩)) [] rfl rfl (by kernel_rfl) (by kernel_rfl) (by kernel_rfl) (by kernel_rfl) (fun _ _ _ h => h) hS (Or.inl ⟨rfl, fun w1 hw1 => by go_simp⟩) ?_
        simp only [Act.put, List.setIfInBounds_toArray, List.set_cons_zero, List.set_cons_succ]
        refine wpAnyK_takeTo 3 (some 39) (.int .i64 (pl : Int)) [] rfl rfl (by kernel_rfl) (by kernel_rfl) (by kernel_rfl) (by kernel_rfl) (fun _ _ _ h => h) hS (Or.inl ⟨rfl, fun w1 hw1 => by obtain ⟨x0, x1⟩ := hw1; go_simp⟩) ?_
        simp only [Act.put, List.setIfInBounds_toArray, List.set_cons_zero, List.set_cons_succ]
        refine wpAnyK_takeTo 4 (some 40) (.slice (some ⟨gx, 0, none⟩) 256 256) [] rfl rfl (by kernel_rfl) (by kernel_rfl) (by kernel_rfl) (by kernel_rfl) (fun _ _ _ h => h) hS (Or.inl ⟨rfl, fun w1 hw1 => by go_simp⟩) ?_
        simp only [Act.put, List.setIfInBounds_toArray, List.set_cons_zero, List.set_cons_succ]
        refine wpAnyK_one (i := 5) (by kernel_rfl) rfl rfl ?_
        refine wp_call_to (some 41) rfl 58 #[.pointer (some ⟨g, 0, none⟩), .int .i64 (pl : Int), .slice (some ⟨gx, 0, none⟩) 256 256] (by go_simp) (rwrite_any (HHD.out.kept G2) hLl g first pl HLD.out.c0 HLD.out.c1 hplc hS4 gx 0 256 (padC T x) (padC_length T x) (by have := bi_range (w := W2.drew) HQ1.out 0 256 (by simp [padC_length]); rwa [List.drop_zero, List.take_of_length_le (by simp [padC_length])] at this) hogx hgb hog) ?_
        rintro y V5 ⟨rfl, pv5, d5, p5, f5⟩
        refine ⟨_, rfl, fun _ => ?_, ?_⟩
        · exact hSz _ (fun _ => False) f5
        simp only [Act.put, List.setIfInBounds_toArray, List.set_cons_zero, List.set_cons_succ]
        refine wpAnyK_done (by kernel_rfl) ?_ _
        have hS5 := (hSz _ (fun _ => False) f5).2
        have hB5 : V5.heap[Bp]? = some (.cells #[.int .i64 (pl : Int)] 3 (0, 0)) := (f5.block Bp (by omega) hXp').trans ((G2.block Bp (by omega) (fun h => h)).trans HHB'.out)
        have z5 : V5.frozen? ⟨Bp, 0, none⟩ = false := by simp [World.frozen?, hB5]
        have HB5 := hide hB5
        have HD5 := hide d5
        have HP5 := hide p5
        have HF5 := hide f5
        have wpl : IntKind.i64.wrap ((pl : Int) + 1) = (pl : Int) + 1 := by rw [IntKind.wrap_i64]; omega
        clear hB5 d5 p5 f5 hS
        gi_wp2
        have FS := Fr.setCell V5 ⟨Bp, 0, none⟩ (.int .i64 ((pl : Int) + 1))
        have FT : Fr W (V5.setCell ⟨Bp, 0, none⟩ (.int .i64 ((pl : Int) + 1))) (fun k => k = b ∨ pv'.ownBlock = some k ∨ k = Bp) := ((G2.trans HF5.out).trans FS).mono (by
          intro k _ h1
          rcases h1 with (h1 | h1 | h1) | h1
          · exact h1.elim
          · exact .inl h1
          · exact .inr (.inl h1)
          · exact .inr (.inr h1))
        have hcell : ∀ (k : Nat) (o : Obj), W.heap[k]? = some o → o.isCells = false → (V5.setCell ⟨Bp, 0, none⟩ (.int .i64 ((pl : Int) + 1))).heap[k]? = some o := fun k o hk ho => by
          rw [FT.block k (Array.getElem?_eq_some_iff.1 hk).1 ?_]
          · exact hk
          · rintro (h1 | h1 | h1)
            · rw [HHD.out.cells_own (.inl h1) hk] at ho; cases ho
            · rw [HHD.out.cells_own (.inr (.inr h1)) hk] at ho; cases ho
            · rw [h1, HHB'.out] at hk; cases hk; cases ho
        have hop : ∀ q, pv5.ownBlock = some q → q < w.heap.size ∨ W1.heap.size ≤ q := fun q hq => by
          rcases HP5.out with h1 | ⟨k, h1, h2⟩
          · rw [h1] at hq; exact HOW.out q hq
          · rw [h1] at hq; cases hq; exact .inr (by omega)
        refine ⟨⟨FT.size, fun k o _ hk ho => hcell k o hk ho⟩, ⟨FT.block B1 (by omega) ?_, FT.block B2 (by omega) ?_⟩, pv5, ?_, ?_, ?_, (HHF.out.trans FT).mono ?_⟩
        · rintro (h1 | h1 | h1)
          · omega
          · rcases HOW.out _ h1 with h2 | h2 <;> omega
          · omega
        · rintro (h1 | h1 | h1)
          · omega
          · rcases HOW.out _ h1 with h2 | h2 <;> omega
          · omega
        · rw [forced_snoc, ← List.append_assoc]
          have h6 := HD5.out
          rw [HPL.out, show first + (dur / 256 + pre.length) = first + dur / 256 + pre.length by omega] at h6
          refine h6.apart FS (show ¬ b = Bp by omega) (show ¬ gs = Bp by omega) (fun q hq => show ¬ q = Bp from fun h1 => ?_)
          rcases hop q hq with h2 | h2 <;> omega
        · rcases HP5.out with h1 | ⟨k, h1, h2⟩
          · rw [h1]; exact HHP.out
          · exact .inr ⟨k, h1, by omega⟩
        · rw [heap_setCell_here V5 Bp 0 _ _ _ _ HB5.out]
          rw [List.length_append, List.length_cons, List.length_nil, show dur / 256 + (pre.length + (0 + 1)) = pl + 1 by have := HPL.out; omega]
          rfl
        · intro k hk h1
          rcases h1 with h1 | h1 | h1 | h1
          · exact h1
          · exact .inl h1
          · rcases HHP.out with h2 | ⟨q, h2, h3⟩
            · rw [h2] at h1; exact .inr (.inl h1)
            · rw [h2] at h1; cases h1; omega
          · exact .inr (.inr h1)
      case done =>
        rintro D ys W hD rfl ⟨pv', hd, hp, hb, hf⟩ hK
        have hXl : ¬ (Bl = b ∨ pv.ownBlock = some Bl ∨ Bl = Bp) := by
          rintro (h1 | h1 | h1)
          · omega
          · have := HPW.out _ h1; omega
          · omega
        have hXg : ¬ (g = b ∨ pv.ownBlock = some g ∨ g = Bp) := by
          rintro (h1 | h1 | h1)
          · exact hgb h1
          · exact hpg h1
          · omega
        have hXt : ¬ (gt = b ∨ pv.ownBlock = some gt ∨ gt = Bp) := by
          rintro (h1 | h1 | h1)
          · exact hgt1 h1
          · exact hgt3 h1
          · omega
        have hsW := hf.size
        have HHD := hide hd
        have HLW := hide (HLL.out.fr hf hXg)
        have HBW := hide (HBT.out.fr hf (fun q off h1 _ h2 => by cases h1; exact hXt h2))
        have hbW : W.heap[Bl]? = some (.cells #[.pointer (some ⟨g, 0, none⟩)] 49 (0, 0)) := (hf.block Bl (by omega) hXl).trans HBL.out
        have HbW := hide hbW
        have HWF := hide ((HFL.out.trans hf).mono (Y := fun k => k = b ∨ pv.ownBlock = some k) (by
          intro k hk h1
          rcases h1 with (h1 | h1) | h1
          · exact h1.elim
          · exact h1.elim
          · rcases h1 with h1 | h1 | h1
            · exact .inl h1
            · exact .inr h1
            · omega))
        have HK := hide hK
        have hDg : D ≠ g ∧ D ≠ b ∧ D ≠ gs ∧ D ≠ Bl := by omega
        have c0 := HLW.out.c0
        have cb : W.cell? ⟨Bl, 0, none⟩ = some (.pointer (some ⟨g, 0, none⟩)) := by rw [cell_of_row _ _ _ _ _ _ hbW]; rfl
        obtain ⟨LL, hLL⟩ : ∃ LL, LL = L ++ forced T (first + dur / 256) (List.range ((tn + 255) / 256)) := ⟨_, rfl⟩
        have hLl : LL.length ≤ 268435456 := by rw [hLL, List.length_append, forced_length, List.length_range]; omega
        rw [← hLL] at HHD
        have HLLL := hide hLL
        clear hd hp hb hf hbW hK hLL
        dsimp only
        go_wp2_with fail
        refine (sync_any HHD.out hLl).mono ?_
        rintro y W5 ⟨rfl, Cs', d5, f5⟩
        have hbl5 : ¬ (Bl = gs ∨ Bl = b) := by omega
        have hb5 : W5.heap[Bl]? = some (.cells #[.pointer (some ⟨g, 0, none⟩)] 49 (0, 0)) := (f5.block Bl (by omega) hbl5).trans HbW.out
        have hK5 : W5.heap[D]? = some (.deferred (some [])) := (f5.block D ((Array.getElem?_eq_some_iff.1 HK.out).1) (by omega)).trans HK.out
        have HL5 := hide (HLW.out.fr f5 (by omega))
        have HB5 := hide (HBW.out.fr f5 (fun q off h1 _ h2 => by cases h1; omega))
        have HF5 := hide ((HWF.out.trans f5).mono (Y := fun k => k = b ∨ k = gs ∨ pv.ownBlock = some k) (by
          intro k hk h1
          rcases h1 with (h1 | h1) | (h1 | h1)
          · exact .inl h1
          · exact .inr (.inr h1)
          · exact .inr (.inl h1)
          · exact .inl h1))
        have HD5 := hide d5
        have c4 := HL5.out.c4
        have cb5 : W5.cell? ⟨Bl, 0, none⟩ = some (.pointer (some ⟨g, 0, none⟩)) := by rw [cell_of_row _ _ _ _ _ _ hb5]; rfl
        have Hb5 := hide hb5
        have HK5 := hide hK5
        clear c0 cb d5 f5 hb5 hK5
        go_wp2_with fail
        refine (sectorStart_any dur (by omega) W5).mono ?_
        rintro y W6 ⟨rfl, hV⟩
        obtain rfl := hV.symm
        clear hV
        obtain ⟨ds, hds⟩ : ∃ ds, ds = dur / 256 * 256 := ⟨_, rfl⟩
        rw [← hds]
        have HDS := hide hds
        clear hds
        go_wp2_with fail
        have FD5 := Fr.drew W5 (fun _ => False)
        have hSx : ∀ V, Fr W5 V (fun _ => False) → (LogAt V g b first count (some ⟨gt, 0, none⟩) tn tc dur sum ∧ V.cell? ⟨Bl, 0, none⟩ = some (.pointer (some ⟨g, 0, none⟩))) := fun V hV => ⟨HL5.out.fr hV (fun h => h), by
          rw [cell_of_row _ _ _ _ _ _ ((hV.block Bl ((Array.getElem?_eq_some_iff.1 Hb5.out).1) (fun h => h)).trans Hb5.out)]; rfl⟩
        have hS := hSx _ FD5
        refine wp_region_K (fun j => decide (j ≠ 5)) (fun V => LogAt V g b first count (some ⟨gt, 0, none⟩) tn tc dur sum ∧ V.cell? ⟨Bl, 0, none⟩ = some (.pointer (some ⟨g, 0, none⟩))) (by kernel_rfl) ?_
        refine wpAnyK_takeTo 0 (some 55) (.pointer (some ⟨g, 0, none⟩)) [5] rfl rfl (by kernel_rfl) (by kernel_rfl) (by kernel_rfl) (by kernel_rfl) (fun _ _ _ h => h) hS (Or.inl ⟨rfl, fun w1 hw1 => by obtain ⟨⟨x0, x1, x2, x3, x4, x5, _⟩, y0⟩ := hw1; go_simp⟩) ?_
        simp only [Act.put, List.setIfInBounds_toArray, List.set_cons_zero, List.set_cons_succ]
        refine wpAnyK_takeTo 1 (some 56) (.pointer (some ⟨g, 0, none⟩)) [5] rfl rfl (by kernel_rfl) (by kernel_rfl) (by kernel_rfl) (by kernel_rfl) (fun _ _ _ h => h) hS (Or.inl ⟨rfl, fun w1 hw1 => by obtain ⟨⟨x0, x1, x2, x3, x4, x5, _⟩, y0⟩ := hw1; go_simp⟩) ?_
        simp only [Act.put, List.setIfInBounds_toArray, List.set_cons_zero, List.set_cons_succ]
        refine wpAnyK_one (i := 2) (by kernel_rfl) rfl rfl ?_
        refine wp_call_to (some 57) rfl 104 #[.pointer (some ⟨g, 0, none⟩)] (by go_simp) (hwe _ hS.1) ?_
        rintro y V6 ⟨rfl, q6⟩
        have G6 : Fr W5 V6 (fun _ => False) := (FD5.trans q6).mono (by simp)
        have hS := hSx _ G6
        refine ⟨_, rfl, fun _ => hS, ?_⟩
        simp only [Act.put, List.setIfInBounds_toArray, List.set_cons_zero, List.set_cons_succ]
        refine wpAnyK_takeTo 3 (some 58) (.pointer (some ⟨g, 0, none⟩)) [4, 5] rfl rfl (by kernel_rfl) (by kernel_rfl) (by kernel_rfl) (by kernel_rfl) (fun _ _ _ h => h) hS (Or.inl ⟨rfl, fun w1 hw1 => by go_simp⟩) ?_
        simp only [Act.put, List.setIfInBounds_toArray, List.set_cons_zero, List.set_cons_succ]
        refine wpAnyK_takeTo 4 (some 59) (.pointer (some ⟨g, 4, none⟩)) [5] rfl rfl (by kernel_rfl) (by kernel_rfl) (by kernel_rfl) (by kernel_rfl) (fun _ _ _ h => h) hS (Or.inl ⟨rfl, fun w1 hw1 => by go_simp⟩) ?_
        simp only [Act.put, List.setIfInBounds_toArray, List.set_cons_zero, List.set_cons_succ]
        have z4 := hS.1.z 4
        have y4 := hS.1.c4
        refine wpAnyK_one (i := 5) (by kernel_rfl) rfl rfl ?_
        go_simp
        first | refine ⟨fun h => by cases h, ?_⟩ | skip
        refine wpAnyK_done (by kernel_rfl) ?_ _
        have FS7 := Fr.setCell V6 ⟨g, 4, none⟩ (.int .i64 (en : Int))
        have HL7 : Hid (LogAt (V6.setCell ⟨g, 4, none⟩ (.int .i64 (en : Int))) g b first count (some ⟨gt, 0, none⟩) tn tc en sum) := hS.1.set4 (.int .i64 (en : Int))
        have G7 : Fr W5 (V6.setCell ⟨g, 4, none⟩ (.int .i64 (en : Int))) (fun k => k = g) := (G6.trans FS7).mono (by intro k _ h1; rcases h1 with h1 | h1; exact h1.elim; exact h1)
        clear hS hSx FD5 q6 G6 FS7 z4 y4 c4 cb5 hwe
        generalize V6.setCell ⟨g, 4, none⟩ (.int .i64 (en : Int)) = W7 at *
        go_wp2_with fail
        have FD7 := Fr.drew W7 (fun _ => False)
        have G7d : Fr W5 W7.drew (fun k => k = g) := (G7.trans FD7).mono (by intro k _ h1; rcases h1 with h1 | h1; exact h1; exact h1.elim)
        have hSx : ∀ V, Fr W7 V (fun _ => False) → (LogAt V g b first count (some ⟨gt, 0, none⟩) tn tc en sum ∧ V.cell? ⟨Bl, 0, none⟩ = some (.pointer (some ⟨g, 0, none⟩))) := fun V hV => ⟨HL7.out.fr hV (fun h => h), by
          have hlt := (Array.getElem?_eq_some_iff.1 Hb5.out).1
          rw [cell_of_row _ _ _ _ _ _ ((hV.block Bl (by have := G7.size; omega) (fun h => h)).trans ((G7.block Bl hlt (fun h => hgB h.symm)).trans Hb5.out))]; rfl⟩
        have hS := hSx _ FD7
        obtain ⟨kk, hkk⟩ : ∃ kk, kk = en / 256 * 256 - ds := ⟨_, rfl⟩
        have hds' := HDS.out
        have hen' := HEN.out
        have hkl : kk ≤ tn := by omega
        have hee : ds ≤ en / 256 * 256 := by omega
        have htl : tn - kk = en % 256 := by omega
        have wsub : IntKind.i64.wrap (((en / 256 * 256 : Nat) : Int) - (ds : Int)) = (kk : Int) := by rw [IntKind.wrap_i64]; omega
        have hds0 : ((en / 256 * 256 : Nat) : Int) - (ds : Int) = (kk : Int) := by omega
        have wkk : IntKind.i64.wrap (kk : Int) = (kk : Int) := by rw [IntKind.wrap_i64]; omega
        obtain ⟨es, hes⟩ : ∃ es, es = en / 256 * 256 := ⟨_, rfl⟩
        have hst : ∀ V, Calls Try.prog 56 #[.int .i64 (en : Int)] V fun e w' => e = .returned (.int .i64 (es : Int)) ∧ w' = V := fun V => by rw [hes]; exact sectorStart_any en (by omega) V
        rw [← hes] at wsub hds0
        have HKK := hide hkk
        have HES := hide hes
        have HTL := hide htl
        have HHE := hide hee
        obtain ⟨a5, ha5⟩ : ∃ a5, a5 = (if tc = kk then some (⟨gt, 0, none⟩ : Addr) else some ⟨gt, 0 + kk, none⟩) := ⟨_, rfl⟩
        have ha5n : a5 ≠ none := by rw [ha5]; split <;> simp
        have HB7 := hide (show ∀ V, Fr W5 V (fun k => k = g) → BI V a5 (tn - kk) (T.drop kk) from fun V hV => by
          have h1 := HB5.out.fr hV (fun q off h1 _ h2 => by cases h1; exact hgt4 h2)
          by_cases h0 : tn - kk = 0
          · exact ⟨by rw [List.length_drop]; omega, .inl h0⟩
          · rw [ha5, if_neg (by omega)]
            have h2 := h1.cut kk (tn - kk) (by omega) gt 0 rfl
            rwa [List.take_of_length_le (by rw [List.length_drop]; omega)] at h2)
        clear hds' hen' hkk hes htl hee
        refine wp_region_K (fun j => decide (j ≠ 16)) (fun V => LogAt V g b first count (some ⟨gt, 0, none⟩) tn tc en sum ∧ V.cell? ⟨Bl, 0, none⟩ = some (.pointer (some ⟨g, 0, none⟩))) (by kernel_rfl) ?_
        refine wpAnyK_takeTo 0 (some 60) (.pointer (some ⟨g, 0, none⟩)) [16] rfl rfl (by kernel_rfl) (by kernel_rfl) (by kernel_rfl) (by kernel_rfl) (fun _ _ _ h => h) hS (Or.inl ⟨rfl, fun w1 hw1 => by obtain ⟨⟨x0, x1, x2, x3, x4, x5, _⟩, y0⟩ := hw1; go_simp⟩) ?_
        simp only [Act.put, List.setIfInBounds_toArray, List.set_cons_zero, List.set_cons_succ]
        refine wpAnyK_takeTo 1 (some 61) (.pointer (some ⟨g, 0, none⟩)) [16] rfl rfl (by kernel_rfl) (by kernel_rfl) (by kernel_rfl) (by kernel_rfl) (fun _ _ _ h => h) hS (Or.inl ⟨rfl, fun w1 hw1 => by obtain ⟨⟨x0, x1, x2, x3, x4, x5, _⟩, y0⟩ := hw1; go_simp⟩) ?_
        simp only [Act.put, List.setIfInBounds_toArray, List.set_cons_zero, List.set_cons_succ]
        refine wpAnyK_takeTo 2 (some 62) (.pointer (some ⟨g, 0, none⟩)) [16] rfl rfl (by kernel_rfl) (by kernel_rfl) (by kernel_rfl) (by kernel_rfl) (fun _ _ _ h => h) hS (Or.inl ⟨rfl, fun w1 hw1 => by go_simp⟩) ?_
        simp only [Act.put, List.setIfInBounds_toArray, List.set_cons_zero, List.set_cons_succ]
        refine wpAnyK_takeTo 3 (some 63) (.pointer (some ⟨g, 3, none⟩)) [16] rfl rfl (by kernel_rfl) (by kernel_rfl) (by kernel_rfl) (by kernel_rfl) (fun _ _ _ h => h) hS (Or.inl ⟨rfl, fun w1 hw1 => by go_simp⟩) ?_
        simp only [Act.put, List.setIfInBounds_toArray, List.set_cons_zero, List.set_cons_succ]
        refine wpAnyK_takeTo 4 (some 64) (.slice (some ⟨gt, 0, none⟩) tn tc) [16] rfl rfl (by kernel_rfl) (by kernel_rfl) (by kernel_rfl) (by kernel_rfl) (fun _ _ _ h => h) hS (Or.inl ⟨rfl, fun w1 hw1 => by obtain ⟨⟨x0, x1, x2, x3, x4, x5, _⟩, y0⟩ := hw1; go_simp⟩) ?_
        simp only [Act.put, List.setIfInBounds_toArray, List.set_cons_zero, List.set_cons_succ]
        refine wpAnyK_takeTo 5 (some 65) (.pointer (some ⟨g, 0, none⟩)) [16] rfl rfl (by kernel_rfl) (by kernel_rfl) (by kernel_rfl) (by kernel_rfl) (fun _ _ _ h => h) hS (Or.inl ⟨rfl, fun w1 hw1 => by obtain ⟨⟨x0, x1, x2, x3, x4, x5, _⟩, y0⟩ := hw1; go_simp⟩) ?_
        simp only [Act.put, List.setIfInBounds_toArray, List.set_cons_zero, List.set_cons_succ]
        refine wpAnyK_takeTo 6 (some 66) (.pointer (some ⟨g, 0, none⟩)) [16] rfl rfl (by kernel_rfl) (by kernel_rfl) (by kernel_rfl) (by kernel_rfl) (fun _ _ _ h => h) hS (Or.inl ⟨rfl, fun w1 hw1 => by go_simp⟩) ?_
        simp only [Act.put, List.setIfInBounds_toArray, List.set_cons_zero, List.set_cons_succ]
        refine wpAnyK_takeTo 7 (some 67) (.pointer (some ⟨g, 4, none⟩)) [16] rfl rfl (by kernel_rfl) (by kernel_rfl) (by kernel_rfl) (by kernel_rfl) (fun _ _ _ h => h) hS (Or.inl ⟨rfl, fun w1 hw1 => by go_simp⟩) ?_
        simp only [Act.put, List.setIfInBounds_toArray, List.set_cons_zero, List.set_cons_succ]
        refine wpAnyK_takeTo 8 (some 68) (.int .i64 (en : Int)) [16] rfl rfl (by kernel_rfl) (by kernel_rfl) (by kernel_rfl) (by kernel_rfl) (fun _ _ _ h => h) hS (Or.inl ⟨rfl, fun w1 hw1 => by obtain ⟨⟨x0, x1, x2, x3, x4, x5, _⟩, y0⟩ := hw1; go_simp⟩) ?_
        simp only [Act.put, List.setIfInBounds_toArray, List.set_cons_zero, List.set_cons_succ]
        refine wpAnyK_takeTo 10 (some 70) (.int .i64 (ds : Int)) [16] rfl rfl (by kernel_rfl) (by kernel_rfl) (by kernel_rfl) (by kernel_rfl) (fun _ _ _ h => h) hS (Or.inl ⟨rfl, fun w1 hw1 => by go_simp⟩) ?_
        simp only [Act.put, List.setIfInBounds_toArray, List.set_cons_zero, List.set_cons_succ]
        refine wpAnyK_one (i := 9) (by kernel_rfl) rfl rfl ?_
        refine wp_call_to (some 69) rfl 56 #[.int .i64 (en : Int)] (by go_simp) (hst _) ?_
        rintro y V8 ⟨rfl, hV⟩
        obtain rfl := hV.symm
        clear hV
        refine ⟨_, rfl, fun _ => hS, ?_⟩
        simp only [Act.put, List.setIfInBounds_toArray, List.set_cons_zero, List.set_cons_succ]
        refine wpAnyK_takeTo 11 (some 71) (.int .i64 (kk : Int)) [16] rfl rfl (by kernel_rfl) (by kernel_rfl) (by kernel_rfl) (by kernel_rfl) (fun _ _ _ h => h) hS (Or.inl ⟨rfl, fun w1 hw1 => by go_simp⟩) ?_
        simp only [Act.put, List.setIfInBounds_toArray, List.set_cons_zero, List.set_cons_succ]
        refine wpAnyK_takeTo 12 (some 72) (.slice a5 (tn - kk) (tc - kk)) [16] rfl rfl (by kernel_rfl) (by kernel_rfl) (by kernel_rfl) (by kernel_rfl) (fun _ _ _ h => h) hS (Or.inl ⟨rfl, fun w1 hw1 => by rw [ha5]; exact exec_tailFrom (.tmp 64) (.tmp 71) rfl gt 0 tn tc kk _ rfl rfl rfl hkl _⟩) ?_
        simp only [Act.put, List.setIfInBounds_toArray, List.set_cons_zero, List.set_cons_succ]
        refine wpAnyK_one (i := 13) (by kernel_rfl) rfl rfl ?_
        refine wp_call_to (some 73) rfl 33 #[.slice a5 (tn - kk) (tc - kk)] (by go_simp) (clone_any a5 (tn - kk) (tc - kk) (T.drop kk) W7.drew (HB7.out _ G7d) (fun h => absurd h ha5n) (by omega)) ?_
        rintro y V9 ⟨v9, rfl, o9, q9, x9⟩
        have G9 : Fr W7 V9 (fun _ => False) := (FD7.trans q9).mono (by simp)
        have hS := hSx _ G9
        refine ⟨_, rfl, fun _ => hS, ?_⟩
        simp only [Act.put, List.setIfInBounds_toArray, List.set_cons_zero, List.set_cons_succ]
        obtain ⟨a9, c9, hv9⟩ := o9.shape
        have hl9 : (T.drop kk).length = en % 256 := by rw [List.length_drop]; have := HTL.out; omega
        rw [hl9] at hv9
        subst hv9
        clear ha5 ha5n
        refine wpAnyK_takeTo 14 (some 74) (.pointer (some ⟨g, 0, none⟩)) [15, 16] rfl rfl (by kernel_rfl) (by kernel_rfl) (by kernel_rfl) (by kernel_rfl) (fun _ _ _ h => h) hS (Or.inl ⟨rfl, fun w1 hw1 => by go_simp⟩) ?_
        simp only [Act.put, List.setIfInBounds_toArray, List.set_cons_zero, List.set_cons_succ]
        refine wpAnyK_takeTo 15 (some 75) (.pointer (some ⟨g, 3, none⟩)) [16] rfl rfl (by kernel_rfl) (by kernel_rfl) (by kernel_rfl) (by kernel_rfl) (fun _ _ _ h => h) hS (Or.inl ⟨rfl, fun w1 hw1 => by go_simp⟩) ?_
        simp only [Act.put, List.setIfInBounds_toArray, List.set_cons_zero, List.set_cons_succ]
        have z3 := hS.1.z 3
        have y3 := hS.1.c3
        refine wpAnyK_one (i := 16) (by kernel_rfl) rfl rfl ?_
        go_simp
        first | refine ⟨fun h => by cases h, ?_⟩ | skip
        refine wpAnyK_done (by kernel_rfl) ?_ _
        have FS9 := Fr.setCell V9 ⟨g, 3, none⟩ (.slice a9 (en % 256) c9)
        have HL9 : Hid (LogAt (V9.setCell ⟨g, 3, none⟩ (.slice a9 (en % 256) c9)) g b first count a9 (en % 256) c9 en sum) := hS.1.set3 (.slice a9 (en % 256) c9)
        have GF : Fr W5 (V9.setCell ⟨g, 3, none⟩ (.slice a9 (en % 256) c9)) (fun k => k = g) := ((G7.trans G9).trans FS9).mono (by intro k _ h1; rcases h1 with (h1 | h1) | h1; exact h1; exact h1.elim; exact h1)
        have hs7 := G7d.size
        have HO9 := hide (o9.fr FS9 (fun q hq h1 => by have := x9 q hq; have h2 : q = g := h1; have := HF5.out.size; omega))
        have HX9 := hide x9
        have HK9 : Hid ((V9.setCell ⟨g, 3, none⟩ (.slice a9 (en % 256) c9)).heap[D]? = some (.deferred (some []))) := (GF.block D ((Array.getElem?_eq_some_iff.1 HK5.out).1) (fun h => hDg.1 h)).trans HK5.out
        have HGF := hide GF
        have hw5 := HF5.out.size
        clear hS hSx FD7 q9 G9 o9 x9 FS9 z3 y3 GF G7 hwd
        generalize V9.setCell ⟨g, 3, none⟩ (.slice a9 (en % 256) c9) = WF at *
        go_wp2
        have FK : Fr WF (WF.putObj D (.deferred none)) (fun k => k = D) := (Fr.grown (grownBy_putObj' WF D (.deferred none))).mono (by intro k _ h1; cases h1; rfl)
        refine ⟨by simp, .inl ⟨_, _, rfl, run_takeDeferred HK9.out, ?_⟩⟩
        refine ⟨_, results_none rfl _ _ _, rfl, .inr ⟨by have := HM.out; omega, fun h1 => HDE.out (by omega), Cs', a9, c9, ?_, ?_, ?_, ?_, ?_⟩⟩
        · rw [← HLLL.out]
          refine (HD5.out.apart HGF.out hgb.symm hgg.symm (fun q hq => by cases hq)).apart FK (fun h => hDg.2.1 h.symm) (fun h => hDg.2.2.1 h.symm) (fun q hq => by cases hq)
        · exact HL9.out.fr FK (fun h => hDg.1 h.symm)
        · have h1 := HO9.out.fr FK (fun q hq h1 => by have := (HO9.out.lt q hq).2; have h2 := (Array.getElem?_eq_some_iff.1 HK9.out).1; have h3 := HX9.out q hq; have h4 : q = D := h1; rw [h4] at h3; have := (Array.getElem?_eq_some_iff.1 HK5.out).1; have : W7.drew.heap.size = W7.heap.size := rfl; omega)
          rw [HKK.out, HDS.out] at h1
          exact h1
        · intro q hq
          have := HX9.out q hq
          omega
        · refine ((HF5.out.trans HGF.out).trans FK).mono ?_
          intro k hk h1
          rcases h1 with ((h1 | h1 | h1) | h1) | h1
          · exact .inl h1
          · exact .inr (.inl h1)
          · exact .inr (.inr (.inl h1))
          · exact .inr (.inr (.inr h1))
          · omega
end Go.Proofs.Ytpjelmlbikmddaa
