/- guess: the table that a row may be of. -/
import Derived.Test.YtdeopneififnnaaQb
namespace Go.Proofs.Ytdeopneififnnaa
open Go.RowKit Go.Shelf
set_option maxRecDepth 100000
set_option linter.unusedVariables false
set_option linter.unusedSimpArgs false
attribute [local go_sem] Oper.semAt_some

/-- Values that lie in blocks of P. -/
def ValsIn (P : Nat → Prop) (w : World) (a : Option Addr) (R : List Vl) : Prop := ∀ (i : Nat) (x : Vl), R[i]? = some x → ∃ g off, a = some ⟨g, off, none⟩ ∧ P g ∧ w.cell? ⟨g, off + i * 3, none⟩ = some (.int .i64 x.kind) ∧ w.cell? ⟨g, off + i * 3 + 1, none⟩ = some (.int .i64 x.int) ∧ w.cell? ⟨g, off + i * 3 + 2, none⟩ = some (.string x.text)
theorem ValsIn.fr {P X : Nat → Prop} {w w' : World} {a : Option Addr} {L : List Vl} (h : ValsIn P w a L) (hf : Fr w w' X) (hx : ∀ k, P k → ¬ X k) : ValsIn P w' a L := fun i x hi => by
  obtain ⟨g, off, h1, h2, h3, h4, h5⟩ := h i x hi
  exact ⟨g, off, h1, h2, hf.cell (hx g h2) h3, hf.cell (hx g h2) h4, hf.cell (hx g h2) h5⟩
theorem GV.vals {w W : World} {v : Value} {L : List Vl} (h : GV w W v L) : ∃ a c, v = .slice a L.length c ∧ ValsIn (fun g => w.heap.size ≤ g) W a L ∧ (a = none → L = [] ∧ c = 0) ∧ L.length ≤ c := by
  obtain ⟨a, c, rfl⟩ := shape_n h.1
  refine ⟨a, c, rfl, fun i x hi => ?_, fun ha => ?_, ?_⟩
  · obtain ⟨g, rfl, e0⟩ := row_cell h.1 (encV_get L i x hi 0 _ rfl)
    obtain ⟨g1, h1, e1⟩ := row_cell h.1 (encV_get L i x hi 1 _ rfl)
    obtain ⟨g2, h2, e2⟩ := row_cell h.1 (encV_get L i x hi 2 _ rfl)
    cases h1; cases h2
    refine ⟨g, 0, rfl, h.2.2 g rfl, ?_, ?_, ?_⟩
    · rw [Nat.zero_add]; exact e0
    · rw [Nat.zero_add]; exact e1
    · rw [Nat.zero_add]; exact e2
  · rcases h.1.2 with ⟨h1, h0⟩ | ⟨g, cap, cur, h1, _⟩
    · simp only [Value.slice.injEq] at h1; exact ⟨List.eq_nil_of_length_eq_zero h0, h1.2.2⟩
    · cases h1; cases ha
  · rcases h.1.2 with ⟨h1, h0⟩ | ⟨g, cap, cur, h1, _, _, h2, _⟩
    · omega
    · cases h1; exact h2
def at_ (R : List Vl) (i : Nat) : Vl := (R[i]?).getD (num 0)
theorem at_eq {R : List Vl} {i : Nat} (h : i < R.length) : R[i]? = some (at_ R i) := by unfold at_; rw [List.getElem?_eq_getElem h]; rfl
def colR (R : List Vl) (j : Nat) : Cn := ⟨(at_ R (4 + 2 * j)).text, (at_ R (5 + 2 * j)).int⟩
def colsR (R : List Vl) (cnt : Nat) : List Cn := (List.range cnt).map (colR R)
def keysR (R : List Vl) (cnt : Nat) : List ByteArray := (R.drop (4 + 2 * cnt)).map Vl.text
/-- How a body is left: at its end or by a return. -/
def leaves (n : Nat) (fn : Func) (R : Ending → World → Prop) : Exit → Act → World → Prop
  | .normal, a, w | .ret, a, w => LeavesInM Fence.wide n Try.prog fn a.tmps R a.defers .returning w
  | _, _, _ => False
theorem leaves_post {n : Nat} {fn : Func} {R : Ending → World → Prop} : ∀ e a w, leaves n fn R e a w → bodyPostM Fence.wide n Try.prog fn R e a w
  | .normal, _, _, h => h
  | .ret, _, _, h => h
  | .exit _, _, _, h => h.elim
  | .goto _, _, _, h => h.elim
  | .panic _, _, _, h => h.elim
  | .outgrown, _, _, h => h.elim
/-- The table that is guessed. -/
def GuessY (R : List Vl) (cnt : Nat) (w : World) (e : Ending) (w' : World) : Prop := ∃ t : Tb, e = .returned (.tuple #[t.agg, .bool true]) ∧ t.key = ((at_ R 0).int, (at_ R 1).text, colsR R cnt, keysR R cnt, decide ((at_ R 2).int = 1)) ∧ TabIn (fun k => w.heap.size ≤ k) w' t ∧ Fr w w' (fun _ => False)
/-- Between two rounds: some columns are there. -/
def colM (R : List Vl) (cnt j : Nat) : Cn := colR R (min j (cnt - 1))
def ColI (Wl : World) (Bt : Nat) (i0 : Int) (s1 : ByteArray) (b2 : Bool) (R : List Vl) (cnt : Nat) (pre : List Nat) (W : World) : Prop :=
  ∃ a c, BoxT W Bt ⟨i0, s1, a, pre.length, c, pre.map (colM R cnt), none, 0, 0, [], b2⟩ ∧ W.ownsRow 0 37 2 (.slice a pre.length c) pre.length (encC (pre.map (colM R cnt))) ∧ (∀ k, (Value.slice a pre.length c).ownBlock = some k → Wl.heap.size ≤ k) ∧ Fr Wl W (fun k => k = Bt)
theorem colI_own (Wl : World) (Bt : Nat) (i0 : Int) (s1 : ByteArray) (b2 : Bool) (R : List Vl) (cnt : Nat) : OwnFrom Wl.heap.size (ColI Wl Bt i0 s1 b2 R cnt) := by
  rintro pre A B row ⟨a, c, hb, hr, hf, hw⟩ hg hrw
  have F := Fr.grown hg
  have hn : ∀ (k : Nat) (o : Obj), A.heap[k]? = some o → o.isCells = true → ¬ row = some k := fun k o hk ho e => by
    obtain ⟨_, o', ho', hc⟩ := hrw k e
    rw [hk] at ho'; cases ho'; rw [ho] at hc; cases hc
  refine ⟨a, c, hb.fr F (hn Bt _ hb rfl), ownsRow_fr hr F (fun k hk => ?_), hf, (hw.trans F).mono (fun k hk h => ?_)⟩
  · rcases hr.2 with ⟨h1, _⟩ | ⟨g, cap, cur, h1, _, hgg, _⟩
    · rw [h1] at hk; cases hk
    · rw [h1] at hk; cases hk
      exact hn _ _ hgg rfl
  · rcases h with h | h
    · exact h
    · have := (hrw k h).1; omega
theorem run_mid (g off n c k m : Nat) (hk : k + m ≤ n) (hc : n ≤ c) (w : World) : (Instr.slice 46 (.slice (some ⟨g, off, none⟩) n c) (some (.int .i64 (k : Int))) (some (.int .i64 ((k + m : Nat) : Int))) none).run Try.prog w = .ok (.slice (some ⟨g, if c = k then off else off + k * 3, none⟩) m (c - k)) w := by
  rw [run_slice_lh (P := Try.prog) w 46 _ n c ht46 .i64 .i64 (k : Int) ((k + m : Nat) : Int) (by omega) (by omega) (by omega), size_elem46]
  simp only [Result.andThen_ok, sliced, Int.toNat_natCast, Option.map_some, Addr.add_mid]
  rw [show k + m - k = m by omega]
  split <;> rfl
theorem push_col {W : World} {v : Value} {C : List Cn} {n : Nat} (hn : C.length = n) (h : W.ownsRow 0 37 2 v n (encC C)) (x : Cn) (hb : n ≤ 1048576) :
    ∃ a c w', (Builtin.append_ #[27, 27] 27 #[v, .slice (some ⟨W.heap.size, 0, none⟩) 1 1]).run Try.prog (W.alloc (.cells #[.string x.name, .int .i64 x.kind] 37)) = .ok (.slice a (n + 1) c) w' ∧ w'.ownsRow 0 37 2 (.slice a (n + 1) c) (n + 1) (encC (C ++ [x])) ∧
      Fr W w' (fun k => v.ownBlock = some k) ∧ Fresh W v (.slice a (n + 1) c) := by
  have F1 := Fr.alloc W (.cells #[.string x.name, .int .i64 x.kind] 37) (fun _ => False)
  have b := heap_alloc_new W (.cells #[.string x.name, .int .i64 x.kind] 37)
  obtain ⟨i, hi, hz, hs, hby⟩ := full37
  obtain ⟨v', W', hr, q1, q2, q3⟩ := run_append_gen (P := Try.prog) (W.alloc (.cells #[.string x.name, .int .i64 x.kind] 37)) 27 27 37 i _ 2 24 Try.underlying27 hi hz hs hby rfl (by omega) v n (encC C) (ownsRow_fr h F1 (fun _ _ h => h)) ⟨W.heap.size, 0, none⟩ 1 1 [.string x.name, .int .i64 x.kind] rfl (fun j u hu => by
    rw [Addr.add_mid, Nat.zero_add]
    match j, hu with
    | 0, hu => cases hu; exact (cell_of_row _ _ _ _ _ _ b).trans rfl
    | 1, hu => cases hu; exact (cell_of_row _ _ _ _ _ _ b).trans rfl) (fun u hu => by
      simp at hu
      rcases hu with rfl | rfl <;> rfl) (by unfold maxLen; omega) (by omega)
  obtain ⟨a, c, rfl⟩ := shape_n q1
  refine ⟨a, c, W', hr, ?_, (F1.trans (Fr.grown q2)).mono (fun k _ hh => hh.elim (fun h => h.elim) id), ?_⟩
  · have e : encC (C ++ [x]) = encC C ++ [.string x.name, .int .i64 x.kind] := by unfold encC; rw [List.flatMap_append]; simp
    rw [e]
    exact q1
  · rcases q3 with q | ⟨p, q, hp⟩
    · exact .inl q
    · exact .inr ⟨p, q, Nat.le_trans F1.size hp⟩
theorem push_str {W : World} {v : Value} {C : List ByteArray} {n : Nat} (hn : C.length = n) (h : W.ownsRow 0 9 1 v n (C.map Value.string)) (x : ByteArray) (hb : n ≤ 1048576) :
    ∃ a c w', (Builtin.append_ #[28, 28] 28 #[v, .slice (some ⟨W.heap.size, 0, none⟩) 1 1]).run Try.prog (W.alloc (.cells #[.string x] 9)) = .ok (.slice a (n + 1) c) w' ∧ w'.ownsRow 0 9 1 (.slice a (n + 1) c) (n + 1) ((C ++ [x]).map Value.string) ∧
      Fr W w' (fun k => v.ownBlock = some k) ∧ Fresh W v (.slice a (n + 1) c) := by
  have F1 := Fr.alloc W (.cells #[.string x] 9) (fun _ => False)
  have b := heap_alloc_new W (.cells #[.string x] 9)
  obtain ⟨i, hi, hz, hs, hby⟩ := full9
  obtain ⟨v', W', hr, q1, q2, q3⟩ := run_append_gen (P := Try.prog) (W.alloc (.cells #[.string x] 9)) 28 28 9 i _ 1 16 Try.underlying28 hi hz hs hby rfl (by omega) v n (C.map Value.string) (ownsRow_fr h F1 (fun _ _ h => h)) ⟨W.heap.size, 0, none⟩ 1 1 [.string x] rfl (fun j u hu => by
    rw [Addr.add_mid, Nat.zero_add]
    match j, hu with
    | 0, hu => cases hu; exact (cell_of_row _ _ _ _ _ _ b).trans rfl) (fun u hu => by
      simp at hu
      subst hu; rfl) (by unfold maxLen; omega) (by omega)
  obtain ⟨a, c, rfl⟩ := shape_n q1
  refine ⟨a, c, W', hr, ?_, (F1.trans (Fr.grown q2)).mono (fun k _ hh => hh.elim (fun h => h.elim) id), ?_⟩
  · rw [List.map_append]
    exact q1
  · rcases q3 with q | ⟨p, q, hp⟩
    · exact .inl q
    · exact .inr ⟨p, q, Nat.le_trans F1.size hp⟩
/-- Between two rounds: some keys are there. -/
def KeyI (Wd : World) (Bt : Nat) (t : Tb) (ks : List ByteArray) (j : Nat) (W : World) : Prop :=
  ∃ a2 c2, BoxT W Bt { t with ka := a2, kn := j, kc := c2 } ∧ W.ownsRow 0 9 1 (.slice a2 j c2) j ((ks.take j).map Value.string) ∧ (∀ k, (Value.slice a2 j c2).ownBlock = some k → Wd.heap.size ≤ k) ∧ Fr Wd W (fun k => k = Bt)
set_option maxHeartbeats 8000000 in
theorem guess_yes {P : Nat → Prop} {w : World} (g off rn rc : Nat) (R : List Vl) (hR : ValsIn P w (some ⟨g, off, none⟩) R) (hn : R.length = rn) (hrc : rn ≤ rc) (hb : rn ≤ 2097152) (cnt : Nat) (hkb : rn ≤ 1048580 + 2 * cnt) (h4 : 4 ≤ rn) (h3 : (at_ R 3).int = (cnt : Int)) (h8 : cnt ≤ 8) (hlen : 4 + 2 * cnt ≤ rn) (h64 : In64 (at_ R 0).int) :
    Calls Try.prog 46 #[.slice (some ⟨g, off, none⟩) rn rc] w (GuessY R cnt w) := by
  obtain ⟨w1, hw1⟩ : ∃ w1, w1 = w.alloc (.cells #[.int .i64 0, .string ⟨#[]⟩, .slice none 0 0, .slice none 0 0, .bool false] 30) := ⟨_, rfl⟩
  have b1 : BoxT w1 w.heap.size zeroT := by rw [hw1]; exact heap_alloc_new w _
  have f1 : Fr w w1 (fun _ => False) := by rw [hw1]; exact Fr.alloc w _ _
  have hsz1 : w1.heap.size = w.heap.size + 1 := by rw [hw1]; simp
  have HCE := hide (show ∀ V, Fr w V (fun _ => False) → ∀ i, i < rn → V.cell? ⟨g, off + i * 3 + 1, none⟩ = some (.int .i64 (at_ R i).int) ∧ V.cell? ⟨g, off + i * 3 + 2, none⟩ = some (.string (at_ R i).text) from fun V hV i hi => by
    obtain ⟨g', off', e, _, _, q1, q2⟩ := (hR.fr hV (fun _ _ h => h)) i _ (at_eq (by omega))
    cases e
    exact ⟨q1, q2⟩)
  have HCK := hide (show ∀ V, Fr w V (fun _ => False) → ∀ i, i < rn → V.cell? ⟨g, off + i * 3, none⟩ = some (.int .i64 (at_ R i).kind) from fun V hV i hi => by
    obtain ⟨g', off', e, _, q0, _, _⟩ := (hR.fr hV (fun _ _ h => h)) i _ (at_eq (by omega))
    cases e
    exact q0)
  have hgl : g < w.heap.size := World.block_lt_of_cell? w _ (HCE.out w (Fr.refl _ _) 0 (by omega)).1
  obtain ⟨x3, _⟩ := HCE.out w1 f1 3 (by omega)
  rw [h3] at x3
  have HN := hide hn
  have HB1 := hide b1
  have HF1 := hide f1
  have HSZ1 := hide hsz1
  have HW := hide hw1
  have H64 := hide h64
  have hlt4 : ¬ ((rn : Int) < 4) := by omega
  have hlt4b : decide ((rn : Int) < 4) = false := by simp; omega
  have h3n : 3 < rn := by omega
  have hc0 : ¬ ((cnt : Int) < 0) := by omega
  have hc0b : decide ((cnt : Int) < 0) = false := by simp
  have hc8 : ¬ ((cnt : Int) > 8) := by omega
  have hc8b : decide ((cnt : Int) > 8) = false := by simp; omega
  have hl4 : ¬ ((rn : Int) < 4 + 2 * (cnt : Int)) := by omega
  have hl4b : decide ((rn : Int) < 4 + 2 * (cnt : Int)) = false := by simp; omega
  clear hR hn b1 f1 hsz1 hw1 h3 h64
  refine (callsIn_wide (n := 3)).1 ?_
  refine callsIn_of_wp_marks Try.func46 rfl trivial ?_ rfl
  simp only [Try.ntmps46, List.size_toArray, List.length_cons, List.length_nil, Nat.reduceAdd, Nat.reduceSub, Array.replicate_succ, Array.replicate_zero, List.push_toArray, List.append_toArray, List.nil_append, List.cons_append]
  refine wpIn_mono ?_ leaves_post
  refine wpIn_wide.2 ?_
  go_wp2_with (rw [← HW.out]; clear HW)
  generalize hi0 : (at_ R 0).int = i0 at *
  generalize hs1 : (at_ R 1).text = s1 at *
  generalize hi2 : (at_ R 2).int = i2 at *
  have hFD := HF1.out.two (Fr.drew w1 _)
  have hSx : ∀ V, Fr w1.drew V (fun _ => False) → (V.cell? ⟨g, off + 0 * 3 + 1, none⟩ = some (.int .i64 i0) ∧ V.cell? ⟨g, off + 1 * 3 + 2, none⟩ = some (.string s1) ∧ V.cell? ⟨g, off + 2 * 3 + 1, none⟩ = some (.int .i64 i2) ∧ True) := fun V hV => ⟨by rw [← hi0]; exact (HCE.out V (hFD.two hV) 0 (by omega)).1, by rw [← hs1]; exact (HCE.out V (hFD.two hV) 1 (by omega)).2, by rw [← hi2]; exact (HCE.out V (hFD.two hV) 2 (by omega)).1, trivial⟩
  replace HB1 := hide (HB1.out.fr (Fr.drew w1 (fun _ => False)) (fun h => h))
  replace HSZ1 : Hid (w1.drew.heap.size = w.heap.size + 1) := hide HSZ1.out
  have HF2 := hide hFD
  refine wp_region_K (fun z => decide (z < 15)) (fun U : World => Fr w1.drew U (fun _ => False)) (by kernel_rfl) ?_
  obtain ⟨b2, hb2⟩ : ∃ b, b = decide (i2 = 1) := ⟨_, rfl⟩
  have hb2e : (i2 == 1) = b2 := by rw [hb2]; rfl
  have HB2E := hide hb2
  clear hb2
  generalize w1.drew = U0 at *
  have hS : (fun U : World => Fr U0 U (fun _ => False)) U0 := Fr.refl _ _
  clear x3 hlt4 hlt4b hc0 hc0b hc8 hc8b hl4 hl4b hFD HF1
  refine wpAnyK_takeTo 0 (some 33) (.slice (some ⟨g, off, none⟩) rn rc) [1, 2, 3, 13, 15] rfl rfl (by kernel_rfl) (by kernel_rfl) (by kernel_rfl) (by kernel_rfl) (fun _ _ _ h => h) hS (Or.inl ⟨rfl, fun w1 hw1 => by obtain ⟨q0, q1, q2, q3⟩ := hSx _ hw1; go_simp; try (intro h; omega)⟩) ?_
  simp only [Act.put, List.setIfInBounds_toArray, List.set_cons_zero, List.set_cons_succ]
  refine wpAnyK_takeTo 1 (some 34) (.pointer (some ⟨g, off + 0 * 3, none⟩)) [2, 3, 13, 15] rfl rfl (by kernel_rfl) (by kernel_rfl) (by kernel_rfl) (by kernel_rfl) (fun _ _ _ h => h) hS (Or.inl ⟨rfl, fun w1 hw1 => by obtain ⟨q0, q1, q2, q3⟩ := hSx _ hw1; go_simp; try (intro h; omega)⟩) ?_
  simp only [Act.put, List.setIfInBounds_toArray, List.set_cons_zero, List.set_cons_succ]
  refine wpAnyK_takeTo 2 (some 35) (.pointer (some ⟨g, off + 0 * 3 + 1, none⟩)) [3, 13, 15] rfl rfl (by kernel_rfl) (by kernel_rfl) (by kernel_rfl) (by kernel_rfl) (fun _ _ _ h => h) hS (Or.inl ⟨rfl, fun w1 hw1 => by obtain ⟨q0, q1, q2, q3⟩ := hSx _ hw1; go_simp; try (intro h; omega)⟩) ?_
  simp only [Act.put, List.setIfInBounds_toArray, List.set_cons_zero, List.set_cons_succ]
  refine wpAnyK_takeTo 3 (some 36) (.int .i64 i0) [13, 15] rfl rfl (by kernel_rfl) (by kernel_rfl) (by kernel_rfl) (by kernel_rfl) (fun _ _ _ h => h) hS (Or.inl ⟨rfl, fun w1 hw1 => by obtain ⟨q0, q1, q2, q3⟩ := hSx _ hw1; go_simp; try (intro h; omega)⟩) ?_
  simp only [Act.put, List.setIfInBounds_toArray, List.set_cons_zero, List.set_cons_succ]
  refine wpAnyK_takeTo 4 (some 37) (.slice (some ⟨g, off, none⟩) rn rc) [5, 6, 7, 13, 15] rfl rfl (by kernel_rfl) (by kernel_rfl) (by kernel_rfl) (by kernel_rfl) (fun _ _ _ h => h) hS (Or.inl ⟨rfl, fun w1 hw1 => by obtain ⟨q0, q1, q2, q3⟩ := hSx _ hw1; go_simp; try (intro h; omega)⟩) ?_
  simp only [Act.put, List.setIfInBounds_toArray, List.set_cons_zero, List.set_cons_succ]
  refine wpAnyK_takeTo 5 (some 38) (.pointer (some ⟨g, off + 1 * 3, none⟩)) [6, 7, 13, 15] rfl rfl (by kernel_rfl) (by kernel_rfl) (by kernel_rfl) (by kernel_rfl) (fun _ _ _ h => h) hS (Or.inl ⟨rfl, fun w1 hw1 => by obtain ⟨q0, q1, q2, q3⟩ := hSx _ hw1; go_simp; try (intro h; omega)⟩) ?_
  simp only [Act.put, List.setIfInBounds_toArray, List.set_cons_zero, List.set_cons_succ]
  refine wpAnyK_takeTo 6 (some 39) (.pointer (some ⟨g, off + 1 * 3 + 2, none⟩)) [7, 13, 15] rfl rfl (by kernel_rfl) (by kernel_rfl) (by kernel_rfl) (by kernel_rfl) (fun _ _ _ h => h) hS (Or.inl ⟨rfl, fun w1 hw1 => by obtain ⟨q0, q1, q2, q3⟩ := hSx _ hw1; go_simp; try (intro h; omega)⟩) ?_
  simp only [Act.put, List.setIfInBounds_toArray, List.set_cons_zero, List.set_cons_succ]
  refine wpAnyK_takeTo 7 (some 40) (.string s1) [13, 15] rfl rfl (by kernel_rfl) (by kernel_rfl) (by kernel_rfl) (by kernel_rfl) (fun _ _ _ h => h) hS (Or.inl ⟨rfl, fun w1 hw1 => by obtain ⟨q0, q1, q2, q3⟩ := hSx _ hw1; go_simp; try (intro h; omega)⟩) ?_
  simp only [Act.put, List.setIfInBounds_toArray, List.set_cons_zero, List.set_cons_succ]
  refine wpAnyK_takeTo 8 (some 41) (.slice (some ⟨g, off, none⟩) rn rc) [9, 10, 11, 12, 13, 15] rfl rfl (by kernel_rfl) (by kernel_rfl) (by kernel_rfl) (by kernel_rfl) (fun _ _ _ h => h) hS (Or.inl ⟨rfl, fun w1 hw1 => by obtain ⟨q0, q1, q2, q3⟩ := hSx _ hw1; go_simp; try (intro h; omega)⟩) ?_
  simp only [Act.put, List.setIfInBounds_toArray, List.set_cons_zero, List.set_cons_succ]
  refine wpAnyK_takeTo 9 (some 42) (.pointer (some ⟨g, off + 2 * 3, none⟩)) [10, 11, 12, 13, 15] rfl rfl (by kernel_rfl) (by kernel_rfl) (by kernel_rfl) (by kernel_rfl) (fun _ _ _ h => h) hS (Or.inl ⟨rfl, fun w1 hw1 => by obtain ⟨q0, q1, q2, q3⟩ := hSx _ hw1; go_simp; try (intro h; omega)⟩) ?_
  simp only [Act.put, List.setIfInBounds_toArray, List.set_cons_zero, List.set_cons_succ]
  refine wpAnyK_takeTo 10 (some 43) (.pointer (some ⟨g, off + 2 * 3 + 1, none⟩)) [11, 12, 13, 15] rfl rfl (by kernel_rfl) (by kernel_rfl) (by kernel_rfl) (by kernel_rfl) (fun _ _ _ h => h) hS (Or.inl ⟨rfl, fun w1 hw1 => by obtain ⟨q0, q1, q2, q3⟩ := hSx _ hw1; go_simp; try (intro h; omega)⟩) ?_
  simp only [Act.put, List.setIfInBounds_toArray, List.set_cons_zero, List.set_cons_succ]
  refine wpAnyK_takeTo 11 (some 44) (.int .i64 i2) [12, 13, 15] rfl rfl (by kernel_rfl) (by kernel_rfl) (by kernel_rfl) (by kernel_rfl) (fun _ _ _ h => h) hS (Or.inl ⟨rfl, fun w1 hw1 => by obtain ⟨q0, q1, q2, q3⟩ := hSx _ hw1; go_simp; try (intro h; omega)⟩) ?_
  simp only [Act.put, List.setIfInBounds_toArray, List.set_cons_zero, List.set_cons_succ]
  refine wpAnyK_takeTo 12 (some 45) (.bool b2) [13, 15] rfl rfl (by kernel_rfl) (by kernel_rfl) (by kernel_rfl) (by kernel_rfl) (fun _ _ _ h => h) hS (Or.inl ⟨rfl, fun w1 hw1 => by obtain ⟨q0, q1, q2, q3⟩ := hSx _ hw1; go_simp; try (intro h; omega)⟩) ?_
  simp only [Act.put, List.setIfInBounds_toArray, List.set_cons_zero, List.set_cons_succ]
  refine wpAnyK_takeTo 13 (some 46) (.agg #[.int .i64 i0, .string s1, .slice none 0 0, .slice none 0 0, .bool b2]) [15] rfl rfl (by kernel_rfl) (by kernel_rfl) (by kernel_rfl) (by kernel_rfl) (fun _ _ _ h => h) hS (Or.inl ⟨rfl, fun w1 hw1 => by obtain ⟨q0, q1, q2, q3⟩ := hSx _ hw1; go_simp; try (intro h; omega)⟩) ?_
  simp only [Act.put, List.setIfInBounds_toArray, List.set_cons_zero, List.set_cons_succ]
  clear hS hSx hb2e
  have FZ := Fr.alloc U0 (.cells #[.int .i64 0, .string ⟨#[]⟩, .slice none 0 0, .slice none 0 0, .bool false] 30) (fun _ => False)
  have bz : BoxT (U0.alloc (.cells #[.int .i64 0, .string ⟨#[]⟩, .slice none 0 0, .slice none 0 0, .bool false] 30)) U0.heap.size zeroT := heap_alloc_new U0 _
  have szz : (U0.alloc (.cells #[.int .i64 0, .string ⟨#[]⟩, .slice none 0 0, .slice none 0 0, .bool false] 30)).heap.size = U0.heap.size + 1 := by simp
  obtain ⟨Bt, hBt⟩ : ∃ Bt, Bt = U0.heap.size := ⟨_, rfl⟩
  rw [← hBt] at bz szz
  obtain ⟨U1, hU1⟩ : ∃ U1, U1 = U0.alloc (.cells #[.int .i64 0, .string ⟨#[]⟩, .slice none 0 0, .slice none 0 0, .bool false] 30) := ⟨_, rfl⟩
  rw [← hU1] at FZ bz szz
  refine wpAnyK_one (i := 14) (by kernel_rfl) rfl rfl ?_
  go_simp
  rw [← hU1, ← hBt]
  refine ⟨FZ, ?_⟩
  obtain ⟨z0, z1, z2, z3, z4⟩ := bz.cells
  have q0 := bz.frozen 0
  have q1 := bz.frozen 1
  have q2 := bz.frozen 2
  have q3 := bz.frozen 3
  have q4 := bz.frozen 4
  obtain ⟨U2, hU2⟩ : ∃ U2, U2 = ((((U1.setCell ⟨Bt, 0, none⟩ (.int .i64 i0)).setCell ⟨Bt, 1, none⟩ (.string s1)).setCell ⟨Bt, 2, none⟩ (.slice none 0 0)).setCell ⟨Bt, 3, none⟩ (.slice none 0 0)).setCell ⟨Bt, 4, none⟩ (.bool b2) := ⟨_, rfl⟩
  have HBT := hide (bz.fill (t' := ⟨i0, s1, none, 0, 0, [], none, 0, 0, [], b2⟩) U2 hU2)
  have F2 := fr_fill (t' := ⟨i0, s1, none, 0, 0, [], none, 0, 0, [], b2⟩) U2 hU2
  have FT : Fr U0 U2 (fun _ => False) := (FZ.trans F2).mono (fun k hk h => by rcases h with h | h; exact h; omega)
  have HSZ2 : Hid (U2.heap.size = w.heap.size + 2) := hide (by rw [hU2]; simp [szz, hBt, HSZ1.out])
  have HBTW : Hid (Bt = w.heap.size + 1) := hide (by rw [hBt, HSZ1.out])
  have HB2 := hide (HB1.out.fr FT (fun h => h))
  have HF3 := hide (HF2.out.two FT)
  have HU2 := hide hU2
  clear FZ szz F2 FT HB1 HF2 HSZ1 hU1 hU2 bz hBt
  refine wpAnyK_one (i := 15) (by kernel_rfl) rfl rfl ?_
  unfold zeroT at z0 z1 z2 z3 z4
  go_simp
  rw [← HU2.out]
  refine wpAnyK_done (by kernel_rfl) ?_ _
  clear HU2 z0 z1 z2 z3 z4 q0 q1 q2 q3 q4
  have HMID := hide (run_mid g off rn rc 4 (2 * cnt) (by omega) (by omega))
  obtain ⟨o4, ho4⟩ : ∃ o4, o4 = (if rc = 4 then off else off + 4 * 3) := ⟨_, rfl⟩
  have hmid : ∀ V, (Instr.slice 46 (.slice (some ⟨g, off, none⟩) rn rc) (some (.int .i64 4)) (some (.int .i64 (4 + 2 * (cnt : Int)))) none).run Try.prog V = .ok (.slice (some ⟨g, o4, none⟩) (2 * cnt) (rc - 4)) V := fun V => by
    have := HMID.out V
    rw [← ho4] at this
    rw [show (4 : Int) + 2 * (cnt : Int) = ((4 + 2 * cnt : Nat) : Int) by omega]
    exact this
  obtain ⟨n2, hn2⟩ : ∃ n2, n2 = 2 * cnt := ⟨_, rfl⟩
  rw [← hn2] at hmid
  have HO4 := hide ho4
  have HN2 := hide hn2
  clear HMID ho4 hn2
  go_wp2_with fail
  refine (chunk_any (some ⟨g, o4, none⟩) n2 (rc - 4) _).mono ?_
  rintro e W1 ⟨rfl, hW1⟩
  clear hmid
  have FB1 := Fr.alloc U2 (.cells #[.slice (some ⟨g, o4, none⟩) n2 (rc - 4)] 46) (fun _ => False)
  have b1 := heap_alloc_new U2 (.cells #[.slice (some ⟨g, o4, none⟩) n2 (rc - 4)] 46)
  have hs1 : (U2.alloc (.cells #[.slice (some ⟨g, o4, none⟩) n2 (rc - 4)] 46)).heap.size = U2.heap.size + 1 := by simp
  generalize U2.alloc (.cells #[.slice (some ⟨g, o4, none⟩) n2 (rc - 4)] 46) = Wq at *
  have FB2 := Fr.alloc Wq (.cells #[.int .i64 2] 3) (fun _ => False)
  have b2' := heap_alloc_new Wq (.cells #[.int .i64 2] 3)
  have hs2 : (Wq.alloc (.cells #[.int .i64 2] 3)).heap.size = Wq.heap.size + 1 := by simp
  rw [← hW1] at FB2 b2' hs2
  obtain ⟨B1, hB1⟩ : ∃ B1, B1 = U2.heap.size := ⟨_, rfl⟩
  obtain ⟨B2, hB2⟩ : ∃ B2, B2 = U2.heap.size + 1 := ⟨_, rfl⟩
  have HB1 := hide ((FB2.block B1 (by omega) (fun h => h)).trans (show Wq.heap[B1]? = some (.cells #[.slice (some ⟨g, o4, none⟩) n2 (rc - 4)] 46 (0, 0)) by rw [hB1]; exact b1))
  have HB2x : Hid (W1.heap[B2]? = some (.cells #[.int .i64 2] 3 (0, 0))) := hide (by rw [hB2, ← hs1]; exact b2')
  have FL : Fr U2 W1 (fun _ => False) := FB1.two FB2
  have HIX := hide (show Bt < B1 ∧ B1 < B2 ∧ B2 < W1.heap.size ∧ w.heap.size < Bt ∧ W1.heap.size = w.heap.size + 4 by have := HSZ2.out; have := HBTW.out; omega)
  rw [← hB2, ← hB1]
  have HBT1 := hide (HBT.out.fr FL (fun h => h))
  have HBZ1 := hide (HB2.out.fr FL (fun h => h))
  have HF4 := hide (HF3.out.two FL)
  clear hW1 FB1 b1 hs1 FB2 b2' hs2 hB1 hB2 FL HBT HB2 HF3 HSZ2
  have HI0 := hide hi0
  have HS1 := hide hs1
  have HI2 := hide hi2
  clear hi0 hs1 hi2
  go_wp2_with fail
  refine (wpIn_wide (n := 3)).1 ?_
  refine wpIn_rangeFunc_ownG (α := Nat) rfl (by omega) (gf := 64) (lb := #[.pointer (some ⟨B1, 0, none⟩), .pointer (some ⟨B2, 0, none⟩)]) rfl trivial (enters_of Try.func64 (by kernel_rfl) rfl)
    (chunk_stops 2 B1 B2 g o4 n2 (rc - 4) cnt (by have := HN2.out; omega) (by have := HN2.out; omega) (by have := HN2.out; omega) W1 HB1.out HB2x.out) (fun h k => ⟨k.1.trans h.1, k.2.trans h.2⟩) (fun V q o o' hq _ _ _ => ⟨World.putObj_heap_other (by have := HIX.out; omega), World.putObj_heap_other (by have := HIX.out; omega)⟩) (Below.refl _ _) (fun _ => rfl)
    (ColI W1 Bt i0 s1 b2 R cnt) (fun _ _ _ => False) (colI_own _ _ _ _ _ _ _) (fun _ _ _ _ _ hs _ _ => hs) ?start
    (fun x => { tmps := #[.slice (some ⟨g, off, none⟩) rn rc, undef, .pointer (some ⟨w.heap.size, 0, none⟩), .bool false, .int .i64 (cnt : Int), .pointer (some ⟨Bt, 0, none⟩), .int .i64 (4 + 2 * (cnt : Int)), pieceV g o4 cnt x, undef, undef, .slice (some ⟨g, off, none⟩) rn rc, .int .i64 (rn : Int), .bool false, undef, .slice (some ⟨g, off, none⟩) rn rc, .pointer (some ⟨g, off + 9, none⟩), .pointer (some ⟨g, off + 9 + 1, none⟩), .int .i64 (cnt : Int), .int .i64 (cnt : Int), .bool false, .bool false, .int .i64 (cnt : Int), .bool false, .bool false, .bool false, .slice (some ⟨g, off, none⟩) rn rc, .int .i64 (rn : Int), .int .i64 (cnt : Int), .int .i64 (2 * (cnt : Int)), .int .i64 (4 + 2 * (cnt : Int)), .bool false, .bool false, undef, .slice (some ⟨g, off, none⟩) rn rc, .pointer (some ⟨g, off, none⟩), .pointer (some ⟨g, off + 1, none⟩), .int .i64 i0, .slice (some ⟨g, off, none⟩) rn rc, .pointer (some ⟨g, off + 3, none⟩), .pointer (some ⟨g, off + 3 + 2, none⟩), .string s1, .slice (some ⟨g, off, none⟩) rn rc, .pointer (some ⟨g, off + 6, none⟩), .pointer (some ⟨g, off + 6 + 1, none⟩), .int .i64 i2, .bool b2, .agg #[.int .i64 i0, .string s1, .slice none 0 0, .slice none 0 0, .bool b2], .int .i64 (cnt : Int), .int .i64 (2 * (cnt : Int)), .int .i64 (4 + 2 * (cnt : Int)), .slice (some ⟨g, off, none⟩) rn rc, .int .i64 (4 + 2 * (cnt : Int)), .slice (some ⟨g, o4, none⟩) n2 (rc - 4), .func (.func 64) #[] #[.pointer (some ⟨B1, 0, none⟩), .pointer (some ⟨B2, 0, none⟩)], pieceV g o4 cnt x, undef, undef, undef, undef, undef, undef, undef, undef, undef, undef, undef, undef, undef, undef, undef, undef, undef, undef, undef, undef, undef, undef, undef, undef, undef, undef, undef, undef, undef, undef, undef], defers := [] }) ?assign ?body ?done ?stop
  case start => exact ⟨none, 0, HBT1.out, World.ownsRow_nil _ 0 37 2, fun k hk => (by cases hk), Fr.refl _ _⟩
  case assign =>
    intro l x V K hK
    gi_wp2
    exact hK
  case stop =>
    rintro D c pre V _ _ h _
    exact h.elim
  case body =>
    rintro l pre x W ⟨a, c, hbx, hrow, hfr, hf⟩ hlen
    obtain ⟨m, hm⟩ : ∃ m, m = pre.length := ⟨_, rfl⟩
    rw [← hm] at hbx hrow hfr hlen
    obtain ⟨po, hpo⟩ : ∃ po, po = o4 + min x (cnt - 1) * 6 := ⟨_, rfl⟩
    have hix := HIX.out
    have hfw : Fr w W (fun _ => False) := (HF4.out.trans hf).mono (fun k hk h => by rcases h with h | h; exact h; omega)
    have hpo2 : po = off + (4 + 2 * min x (cnt - 1)) * 3 := by have := HO4.out; rw [if_neg (by omega)] at this; omega
    have hfD := hfw.two (Fr.drew W _)
    obtain ⟨cs, hcs⟩ : ∃ cs, cs = (colM R cnt x).name := ⟨_, rfl⟩
    obtain ⟨ck, hck⟩ : ∃ ck, ck = (colM R cnt x).kind := ⟨_, rfl⟩
    have hSx : ∀ V, Fr W.drew V (fun _ => False) → (V.cell? ⟨Bt, 2, none⟩ = some (.slice a m c) ∧ V.cell? ⟨g, po + 2, none⟩ = some (.string cs) ∧ V.cell? ⟨g, po + 3 + 1, none⟩ = some (.int .i64 ck)) := fun V hV => by
      refine ⟨((hbx.fr ((Fr.drew W _).two hV) (fun h => h)).cells).2.2.1, ?_, ?_⟩
      · have := (HCE.out V (hfD.two hV) (4 + 2 * min x (cnt - 1)) (by omega)).2
        rw [← hpo2] at this
        rw [hcs]; exact this
      · have := (HCE.out V (hfD.two hV) (5 + 2 * min x (cnt - 1)) (by omega)).1
        rw [show off + (5 + 2 * min x (cnt - 1)) * 3 + 1 = po + 3 + 1 by omega] at this
        rw [hck]; exact this
    have hgB : g ≠ Bt := by omega
    have HHF := hide hf
    have HHR := hide hrow
    have HFR := hide hfr
    have HBX := hide hbx
    have HCS := hide hcs
    have HCK2 := hide hck
    have HPM := hide hm
    have HLEN := hide hlen
    dsimp only
    rw [pieceV, ← hpo]
    clear hpo hpo2 hcs hck hfD hf hrow hfr hbx hm hfw hix hlen hgB
    gi_wp2_with fail
    refine wp_region_round (fun z => decide (z < 12)) (fun V => Fr W.drew V (fun _ => False)) (by kernel_rfl) (by kernel_rfl) (by rintro ⟨_, _, h⟩; exact h) ?_
    obtain ⟨V0, hV0⟩ : ∃ V0, V0 = W.drew := ⟨_, rfl⟩
    have F0 : Fr W V0 (fun _ => False) := by rw [hV0]; exact Fr.drew W _
    rw [← hV0] at hSx ⊢
    have hS : (fun V : World => Fr V0 V (fun _ => False)) V0 := Fr.refl _ _
    clear hV0
    refine wpAnyK_takeTo 0 (some 55) (.pointer (some ⟨Bt, 2, none⟩)) [1, 12, 13, 14] rfl rfl (by kernel_rfl) (by kernel_rfl) (by kernel_rfl) (by kernel_rfl) (fun _ _ _ h => h) hS (Or.inl ⟨rfl, fun w1 hw1 => by obtain ⟨q0, q1, q2⟩ := hSx _ hw1; go_simp⟩) ?_
    simp only [Act.put, List.setIfInBounds_toArray, List.set_cons_zero, List.set_cons_succ]
    refine wpAnyK_takeTo 1 (some 56) (.slice a m c) [12, 13, 14] rfl rfl (by kernel_rfl) (by kernel_rfl) (by kernel_rfl) (by kernel_rfl) (fun _ _ _ h => h) hS (Or.inl ⟨rfl, fun w1 hw1 => by obtain ⟨q0, q1, q2⟩ := hSx _ hw1; go_simp⟩) ?_
    simp only [Act.put, List.setIfInBounds_toArray, List.set_cons_zero, List.set_cons_succ]
    refine wpAnyK_takeTo 2 (some 57) (.slice (some ⟨g, po, none⟩) 2 2) [3, 4, 5, 10, 11, 12, 13, 14] rfl rfl (by kernel_rfl) (by kernel_rfl) (by kernel_rfl) (by kernel_rfl) (fun _ _ _ h => h) hS (Or.inl ⟨rfl, fun w1 hw1 => by obtain ⟨q0, q1, q2⟩ := hSx _ hw1; go_simp⟩) ?_
    simp only [Act.put, List.setIfInBounds_toArray, List.set_cons_zero, List.set_cons_succ]
    refine wpAnyK_takeTo 3 (some 58) (.pointer (some ⟨g, po, none⟩)) [4, 5, 10, 11, 12, 13, 14] rfl rfl (by kernel_rfl) (by kernel_rfl) (by kernel_rfl) (by kernel_rfl) (fun _ _ _ h => h) hS (Or.inl ⟨rfl, fun w1 hw1 => by obtain ⟨q0, q1, q2⟩ := hSx _ hw1; go_simp⟩) ?_
    simp only [Act.put, List.setIfInBounds_toArray, List.set_cons_zero, List.set_cons_succ]
    refine wpAnyK_takeTo 4 (some 59) (.pointer (some ⟨g, po + 2, none⟩)) [5, 10, 11, 12, 13, 14] rfl rfl (by kernel_rfl) (by kernel_rfl) (by kernel_rfl) (by kernel_rfl) (fun _ _ _ h => h) hS (Or.inl ⟨rfl, fun w1 hw1 => by obtain ⟨q0, q1, q2⟩ := hSx _ hw1; go_simp⟩) ?_
    simp only [Act.put, List.setIfInBounds_toArray, List.set_cons_zero, List.set_cons_succ]
    refine wpAnyK_takeTo 5 (some 60) (.string cs) [10, 11, 12, 13, 14] rfl rfl (by kernel_rfl) (by kernel_rfl) (by kernel_rfl) (by kernel_rfl) (fun _ _ _ h => h) hS (Or.inl ⟨rfl, fun w1 hw1 => by obtain ⟨q0, q1, q2⟩ := hSx _ hw1; go_simp⟩) ?_
    simp only [Act.put, List.setIfInBounds_toArray, List.set_cons_zero, List.set_cons_succ]
    refine wpAnyK_takeTo 6 (some 61) (.slice (some ⟨g, po, none⟩) 2 2) [7, 8, 9, 10, 11, 12, 13, 14] rfl rfl (by kernel_rfl) (by kernel_rfl) (by kernel_rfl) (by kernel_rfl) (fun _ _ _ h => h) hS (Or.inl ⟨rfl, fun w1 hw1 => by obtain ⟨q0, q1, q2⟩ := hSx _ hw1; go_simp⟩) ?_
    simp only [Act.put, List.setIfInBounds_toArray, List.set_cons_zero, List.set_cons_succ]
    refine wpAnyK_takeTo 7 (some 62) (.pointer (some ⟨g, po + 3, none⟩)) [8, 9, 10, 11, 12, 13, 14] rfl rfl (by kernel_rfl) (by kernel_rfl) (by kernel_rfl) (by kernel_rfl) (fun _ _ _ h => h) hS (Or.inl ⟨rfl, fun w1 hw1 => by obtain ⟨q0, q1, q2⟩ := hSx _ hw1; go_simp⟩) ?_
    simp only [Act.put, List.setIfInBounds_toArray, List.set_cons_zero, List.set_cons_succ]
    refine wpAnyK_takeTo 8 (some 63) (.pointer (some ⟨g, po + 3 + 1, none⟩)) [9, 10, 11, 12, 13, 14] rfl rfl (by kernel_rfl) (by kernel_rfl) (by kernel_rfl) (by kernel_rfl) (fun _ _ _ h => h) hS (Or.inl ⟨rfl, fun w1 hw1 => by obtain ⟨q0, q1, q2⟩ := hSx _ hw1; go_simp⟩) ?_
    simp only [Act.put, List.setIfInBounds_toArray, List.set_cons_zero, List.set_cons_succ]
    refine wpAnyK_takeTo 9 (some 64) (.int .i64 ck) [10, 11, 12, 13, 14] rfl rfl (by kernel_rfl) (by kernel_rfl) (by kernel_rfl) (by kernel_rfl) (fun _ _ _ h => h) hS (Or.inl ⟨rfl, fun w1 hw1 => by obtain ⟨q0, q1, q2⟩ := hSx _ hw1; go_simp⟩) ?_
    simp only [Act.put, List.setIfInBounds_toArray, List.set_cons_zero, List.set_cons_succ]
    refine wpAnyK_takeTo 10 (some 65) (.agg #[.string cs, .int .i64 ck]) [11, 12, 13, 14] rfl rfl (by kernel_rfl) (by kernel_rfl) (by kernel_rfl) (by kernel_rfl) (fun _ _ _ h => h) hS (Or.inl ⟨rfl, fun w1 hw1 => by obtain ⟨q0, q1, q2⟩ := hSx _ hw1; go_simp⟩) ?_
    simp only [Act.put, List.setIfInBounds_toArray, List.set_cons_zero, List.set_cons_succ]
    clear hS hSx
    obtain ⟨a3, c3, V3, hap, hrow3, f3, fr3⟩ := push_col (C := pre.map (colM R cnt)) (n := m) (by rw [List.length_map]; exact HPM.out.symm) (ownsRow_fr HHR.out F0 (fun _ _ h => h)) ⟨cs, ck⟩ (by have := HLEN.out; omega)
    dsimp only at hap
    have hix := HIX.out
    have hvB : ∀ k, (Value.slice a m c).ownBlock = some k → k ≠ Bt := fun k hk => by have := HFR.out k hk; omega
    have hbx3 : BoxT V3 Bt ⟨i0, s1, a, m, c, pre.map (colM R cnt), none, 0, 0, [], b2⟩ := (HBX.out.fr F0 (fun h => h)).fr f3 (fun h => hvB Bt h rfl)
    obtain ⟨m1, hm1⟩ : ∃ m1, m1 = m + 1 := ⟨_, rfl⟩
    rw [← hm1] at hap hrow3 fr3
    obtain ⟨V4, hV4⟩ : ∃ V4, V4 = V3.setCell ⟨Bt, 2, none⟩ (.slice a3 m1 c3) := ⟨_, rfl⟩
    have hbx4 : BoxT V4 Bt ⟨i0, s1, a3, m1, c3, (pre ++ [x]).map (colM R cnt), none, 0, 0, [], b2⟩ := by rw [hV4]; exact heap_setCell_here _ Bt 2 _ _ _ _ hbx3
    have f4 : Fr V3 V4 (fun k => k = Bt) := by rw [hV4]; exact Fr.setCell _ _ _
    have k2 := (hbx3.cells).2.2.1
    have z2 := hbx3.frozen 2
    have hnew : ∀ k, (Value.slice a3 m1 c3).ownBlock = some k → W1.heap.size ≤ k := fr3.le (Nat.le_trans HHF.out.size F0.size) HFR.out
    have hrow4 : V4.ownsRow 0 37 2 (.slice a3 m1 c3) m1 (encC ((pre ++ [x]).map (colM R cnt))) := by
      rw [List.map_append, List.map_cons, List.map_nil, show colM R cnt x = ⟨cs, ck⟩ by rw [HCS.out, HCK2.out]]
      exact ownsRow_fr hrow3 f4 (fun k hk h => by have := hnew k hk; omega)
    have FT : Fr W V4 (fun k => (Value.slice a m c).ownBlock = some k ∨ k = Bt) := ((F0.trans f3).trans f4).mono (fun k _ h => by
      rcases h with (h | h) | h
      · exact h.elim
      · exact .inl h
      · exact .inr h)
    have HFT := hide FT
    have HBX4 := hide hbx4
    have HR4 := hide hrow4
    have HNEW := hide hnew
    have HM1 := hide hm1
    have HV4 := hide hV4
    have HS0 := hide F0
    clear hbx3 hbx4 f3 f4 fr3 hrow3 hrow4 hnew hvB FT F0 hm1 hV4 hix
    refine wpAnyK_one (i := 11) (by kernel_rfl) rfl rfl ?_
    go_simp
    refine ⟨Fr.alloc _ _ _, ?_⟩
    refine wpAnyK_one (i := 12) (by kernel_rfl) rfl rfl ?_
    refine wp_append_to (.tmp 56) (.tmp 66) 27 rfl (some 67) rfl 27 rfl (.slice a m c) (.slice (some ⟨V0.heap.size, 0, none⟩) 1 1) rfl rfl _ _ hap ⟨fun h => by simp at h, ?_⟩
    simp only [Act.put, List.setIfInBounds_toArray, List.set_cons_zero, List.set_cons_succ]
    clear hap
    refine wpAnyK_one (i := 13) (by kernel_rfl) rfl rfl ?_
    go_simp
    refine wpAnyK_one (i := 14) (by kernel_rfl) rfl rfl ?_
    go_simp
    rw [← HV4.out]
    refine wpAnyK_done (by kernel_rfl) ?_ _
    clear k2 z2
    gi_wp2
    have hix := HIX.out
    have hFT := HFT.out
    have hcell : ∀ (k : Nat) (o : Obj), W.heap[k]? = some o → o.isCells = false → V4.heap[k]? = some o := fun k o hk ho => by
      rw [hFT.block k (Array.getElem?_eq_some_iff.1 hk).1 ?_]
      · exact hk
      · rintro (h1 | h1)
        · rcases HHR.out.2 with ⟨e1, _⟩ | ⟨gg, cap, cur, e1, _, hgg, _⟩
          · rw [e1] at h1; cases h1
          · rw [e1] at h1; cases h1
            rw [hgg] at hk; cases hk; cases ho
        · have hb := HBX.out
          unfold BoxT at hb
          rw [h1, hb] at hk; cases hk; cases ho
    have hn1 : ∀ k, k < W1.heap.size → k ≠ Bt → ¬ ((Value.slice a m c).ownBlock = some k ∨ k = Bt) := fun k hk hne h => by
      rcases h with h | h
      · have := HFR.out k h; omega
      · exact hne h
    have hws := HHF.out.size
    refine ⟨⟨hFT.size, fun k o _ hk ho => hcell k o hk ho⟩, ⟨hFT.block B1 (by omega) (hn1 B1 (by omega) (by omega)), hFT.block B2 (by omega) (hn1 B2 (by omega) (by omega))⟩, a3, c3, ?_, ?_, ?_, ?_⟩
    · have h := HBX4.out
      rw [HM1.out, HPM.out] at h
      rw [List.length_append]
      exact h
    · have h := HR4.out
      rw [HM1.out, HPM.out] at h
      rw [List.length_append]
      exact h
    · have h := HNEW.out
      rw [HM1.out, HPM.out] at h
      rw [List.length_append]
      exact h
    · exact (HHF.out.trans hFT).mono (fun k hk h => by
        rcases h with h | h | h
        · exact h
        · have := HFR.out k h; omega
        · exact h)
  case done =>
    rintro D ys W hD rfl ⟨a, c, hbx, hrow, hfr, hf⟩ hK
    rw [List.length_range] at hbx hrow hfr
    have hcols : (List.range cnt).map (colM R cnt) = colsR R cnt := by
      unfold colsR
      refine List.map_congr_left (fun j hj => ?_)
      have := List.mem_range.1 hj
      unfold colM
      rw [Nat.min_eq_left (by omega)]
    rw [hcols] at hbx hrow
    have hix := HIX.out
    have hfw : Fr w W (fun _ => False) := (HF4.out.trans hf).mono (fun k hk h => by rcases h with h | h; exact h; omega)
    have hbz : BoxT W w.heap.size zeroT := HBZ1.out.fr hf (fun h => by omega)
    have HDB : Hid (W1.heap.size ≤ D) := hide (by first | exact hD | (simp at hD; omega))
    have hkk : 4 + 2 * cnt ≤ rn := hlen
    obtain ⟨kk, hkke⟩ : ∃ kk, kk = 4 + 2 * cnt := ⟨_, rfl⟩
    obtain ⟨nk, hnk⟩ : ∃ nk, nk = rn - kk := ⟨_, rfl⟩
    obtain ⟨ok, hok⟩ : ∃ ok, ok = (if rc = kk then some (⟨g, off, none⟩ : Addr) else some ⟨g, off + kk * 3, none⟩) := ⟨_, rfl⟩
    have hsl : ∀ V, (Instr.slice 46 (.slice (some ⟨g, off, none⟩) rn rc) (some (.int .i64 (4 + 2 * (cnt : Int)))) none none).run Try.prog V = .ok (.slice ok nk (rc - kk)) V := fun V => by
      rw [show (4 : Int) + 2 * (cnt : Int) = (kk : Int) by omega, hnk, hok]
      exact run_tailFrom g off rn rc kk (by omega) V
    have HOK := hide (show ∀ i, i < nk → ok = some ⟨g, off + kk * 3, none⟩ from fun i hi => by rw [hok, if_neg (by omega)])
    have hnkb : nk ≤ 1048576 := by omega
    have HNK := hide hnk
    have HKK := hide hkke
    have HHB := hide hbx
    have HHR := hide hrow
    have HFR := hide hfr
    have HHF := hide hf
    have HFW := hide hfw
    have HBZ := hide hbz
    have HK := hide hK
    clear hcols hbx hrow hfr hf hfw hbz hK hok hnk hkke hkk hix hD
    dsimp only
    go_wp2_with fail
    go_loopw [73] (fun ix wr => ∃ j : Nat, j ≤ nk ∧ ix = .int .i64 (j : Int) ∧ KeyI W Bt ⟨i0, s1, a, cnt, c, colsR R cnt, none, 0, 0, [], b2⟩ (keysR R cnt) j wr) (fun ix _ => nk - (intOf ix).toNat)
    case atStart => exact ⟨0, Nat.zero_le _, rfl, none, 0, HHB.out, World.ownsRow_nil _ 0 9 1, fun k hk => (by cases hk), Fr.refl _ _⟩
    case round =>
      rename World => Y
      obtain ⟨j, hj, rfl, a2, c2, hbx, hrw, hfs, hfy⟩ := hrel
      have HBX := hide hbx
      have HRW := hide hrw
      have HFS := hide hfs
      have HFY := hide hfy
      clear hbx hrw hfs hfy
      rcases Nat.lt_or_ge j nk with hlt | hge
      · obtain ⟨i, hi⟩ : ∃ i, i = kk + j := ⟨_, rfl⟩
        have hirn : i < rn := by have := HNK.out; omega
        obtain ⟨xk, hxk⟩ : ∃ xk, xk = (at_ R i).kind := ⟨_, rfl⟩
        obtain ⟨xi, hxi⟩ : ∃ xi, xi = (at_ R i).int := ⟨_, rfl⟩
        obtain ⟨xs, hxs⟩ : ∃ xs, xs = (at_ R i).text := ⟨_, rfl⟩
        have hix := HIX.out
        have hwy : Fr w Y (fun _ => False) := (HFW.out.trans HFY.out).mono (fun k hk h => by rcases h with h | h; exact h; omega)
        have e0 : Y.cell? ⟨g, off + kk * 3 + j * 3, none⟩ = some (.int .i64 xk) := by
          have := HCK.out Y hwy i hirn
          rw [show off + i * 3 = off + kk * 3 + j * 3 by omega] at this
          rw [hxk]; exact this
        have e1 : Y.cell? ⟨g, off + kk * 3 + j * 3 + 1, none⟩ = some (.int .i64 xi) := by
          have := (HCE.out Y hwy i hirn).1
          rw [show off + i * 3 = off + kk * 3 + j * 3 by omega] at this
          rw [hxi]; exact this
        have e2 : Y.cell? ⟨g, off + kk * 3 + j * 3 + 2, none⟩ = some (.string xs) := by
          have := (HCE.out Y hwy i hirn).2
          rw [show off + i * 3 = off + kk * 3 + j * 3 by omega] at this
          rw [hxs]; exact this
        have HKX : Hid ((keysR R cnt)[j]? = some xs) := hide (by
          unfold keysR
          rw [List.getElem?_map, List.getElem?_drop, ← HKK.out, ← hi, at_eq (by rw [HN.out]; exact hirn), hxs]; rfl)
        rw [HOK.out j hlt]
        obtain ⟨Yb, hYb⟩ : ∃ Yb, Yb = Y.alloc (.cells #[.int .i64 xk, .int .i64 xi, .string xs] 56) := ⟨_, rfl⟩
        have fb : Fr Y Yb (fun _ => False) := by rw [hYb]; exact Fr.alloc Y _ _
        have bb : Yb.heap[Y.heap.size]? = some (.cells #[.int .i64 xk, .int .i64 xi, .string xs] 56 (0, 0)) := by rw [hYb]; exact heap_alloc_new Y _
        have k2 : Yb.cell? ⟨Y.heap.size, 2, none⟩ = some (.string xs) := (cell_of_row _ _ _ _ _ _ bb).trans rfl
        have hbb := HBX.out.fr fb (fun h => h)
        have k3 : Yb.cell? ⟨Bt, 3, none⟩ = some (.slice a2 j c2) := hbb.cells.2.2.2.1
        have hkl : ((keysR R cnt).take j).length = j := by
          rw [List.length_take, Nat.min_eq_left]
          have : j < (keysR R cnt).length := (List.getElem?_eq_some_iff.1 HKX.out).1
          omega
        obtain ⟨a3, c3, V3, hap, hrow3, f3, fr3⟩ := push_str hkl (ownsRow_fr HRW.out fb (fun _ _ h => h)) xs (by omega)
        have hvB : ∀ k, (Value.slice a2 j c2).ownBlock = some k → k ≠ Bt := fun k hk => by have := HFS.out k hk; have := HHF.out.size; omega
        have hbx3 := hbb.fr f3 (fun h => hvB Bt h rfl)
        obtain ⟨j1, hj1⟩ : ∃ j1, j1 = j + 1 := ⟨_, rfl⟩
        rw [← hj1] at hap hrow3 fr3
        obtain ⟨V4, hV4⟩ : ∃ V4, V4 = V3.setCell ⟨Bt, 3, none⟩ (.slice a3 j1 c3) := ⟨_, rfl⟩
        have hbx4 : BoxT V4 Bt ⟨i0, s1, a, cnt, c, colsR R cnt, a3, j1, c3, [], b2⟩ := by rw [hV4]; exact heap_setCell_here _ Bt 3 _ _ _ _ hbx3
        have f4 : Fr V3 V4 (fun k => k = Bt) := by rw [hV4]; exact Fr.setCell _ _ _
        have k4 : V3.cell? ⟨Bt, 3, none⟩ = some (.slice a2 j c2) := hbx3.cells.2.2.2.1
        have z4 := hbx3.frozen 3
        have hnew : ∀ k, (Value.slice a3 j1 c3).ownBlock = some k → W.heap.size ≤ k := fr3.le (Nat.le_trans HFY.out.size fb.size) HFS.out
        have HE4 : Hid (KeyI W Bt ⟨i0, s1, a, cnt, c, colsR R cnt, none, 0, 0, [], b2⟩ (keysR R cnt) j1 V4) := hide ⟨a3, c3, hbx4, by
            rw [hj1, List.take_add_one, HKX.out]
            rw [hj1] at hrow3 hnew
            exact ownsRow_fr hrow3 f4 (fun k hk h => by have := hnew k hk; have := HHF.out.size; omega), hnew, (((HFY.out.trans fb).trans f3).trans f4).mono (fun k hk h => by
            rcases h with ((h | h) | h) | h
            · exact h
            · exact h.elim
            · have := HFS.out k h; omega
            · exact h)⟩
        have HJ1 := hide hj1
        have HYb := hide hYb
        have HV4 := hide hV4
        clear hi hirn hxk hxi hxs hix hwy fb bb hbb hkl hrow3 f3 fr3 hvB hbx3 hbx4 f4 hnew HRW HFS HFY HBX hj1 hYb hV4 hsl
        go_wp2_with (first | (rw [← HYb.out]; clear HYb) | (refine wpList_plain rfl fun _ hK => wp_append_to (.tmp 78) (.tmp 81) 28 rfl _ rfl _ rfl (.slice a2 j c2) (.slice (some ⟨Yb.heap.size, 0, none⟩) 1 1) rfl rfl _ _ hap (hK _ _ ?_); clear hK) | (rw [← HV4.out]; clear HV4))
        go_roundw
        case rel => exact ⟨j + 1, by omega, by go_num, by rw [← HJ1.out]; exact HE4.out⟩
        case measure => simp [intOf]; omega
      · have hcj : ¬ ((j : Int) < (nk : Int)) := by omega
        have hcjb : decide ((j : Int) < (nk : Int)) = false := by simp; omega
        have hix := HIX.out
        have hws := HHF.out.size
        have hys := HFY.out.size
        obtain ⟨x0, x1, x2, x3, x4⟩ := HBX.out.cells
        have hbz := HBZ.out.fr HFY.out (fun h => by omega)
        obtain ⟨z0, z1, z2, z3, z4⟩ := hbz.cells
        unfold zeroT at z0 z1 z2 z3 z4
        have q0 := hbz.frozen 0
        have q1 := hbz.frozen 1
        have q2 := hbz.frozen 2
        have q3 := hbz.frozen 3
        have q4 := hbz.frozen 4
        obtain ⟨V5, hV5⟩ : ∃ V5, V5 = ((((Y.setCell ⟨w.heap.size, 0, none⟩ (.int .i64 i0)).setCell ⟨w.heap.size, 1, none⟩ (.string s1)).setCell ⟨w.heap.size, 2, none⟩ (.slice a cnt c)).setCell ⟨w.heap.size, 3, none⟩ (.slice a2 j c2)).setCell ⟨w.heap.size, 4, none⟩ (.bool b2) := ⟨_, rfl⟩
        obtain ⟨tt, htt⟩ : ∃ tt : Tb, tt = ⟨i0, s1, a, cnt, c, colsR R cnt, a2, j, c2, keysR R cnt, b2⟩ := ⟨_, rfl⟩
        have hb5 : BoxT V5 w.heap.size tt := by rw [htt]; exact hbz.fill (t' := ⟨i0, s1, a, cnt, c, colsR R cnt, a2, j, c2, keysR R cnt, b2⟩) V5 hV5
        have F5 : Fr Y V5 (fun k => k = w.heap.size) := fr_fill (t' := ⟨i0, s1, a, cnt, c, colsR R cnt, a2, j, c2, keysR R cnt, b2⟩) V5 hV5
        have hjn : j = nk := by omega
        have hDy : Y.heap[D]? = some (.deferred (some [])) := (HFY.out.block D (Array.getElem?_eq_some_iff.1 HK.out).1 (fun h => by have := HDB.out; omega)).trans HK.out
        have hD5 : V5.heap[D]? = some (.deferred (some [])) := (F5.block D (Array.getElem?_eq_some_iff.1 hDy).1 (fun h => by have := HDB.out; omega)).trans hDy
        have FK : Fr V5 (V5.putObj D (.deferred none)) (fun k => k = D) := (Fr.grown (grownBy_putObj' V5 D (.deferred none))).mono (fun k _ h1 => by cases h1; rfl)
        have hkl : (keysR R cnt).length = nk := by
          unfold keysR
          rw [List.length_map, List.length_drop, HN.out, ← HKK.out]; exact HNK.out.symm
        have hcl : (colsR R cnt).length = cnt := by unfold colsR; rw [List.length_map, List.length_range]
        have FA : Fr W (V5.putObj D (.deferred none)) (fun k => k = Bt ∨ k = w.heap.size ∨ k = D) := ((HFY.out.trans F5).trans FK).mono (fun k _ h => by
          rcases h with (h | h) | h
          · exact .inl h
          · exact .inr (.inl h)
          · exact .inr (.inr h))
        have hDn : ∀ k, (Value.slice a cnt c).ownBlock = some k → k ≠ D := fun k hk he => by
          rcases HHR.out.2 with ⟨e1, _⟩ | ⟨gg, cap, cur, e1, _, hgg, _⟩
          · rw [e1] at hk; cases hk
          · rw [e1] at hk; cases hk
            have he : gg = D := he
            rw [he, HK.out] at hgg; cases hgg
        have hDn2 : ∀ k, (Value.slice a2 j c2).ownBlock = some k → k ≠ D := fun k hk he => by
          have := HFS.out k hk
          have := (Array.getElem?_eq_some_iff.1 HK.out).1
          omega
        have rc1 := own_cols (P := fun k => w.heap.size ≤ k) (ownsRow_fr HHR.out FA (fun k hk h => by
          have := HFR.out k hk
          have := hDn k hk
          omega)) (fun k hk => by have := HFR.out k hk; omega)
        have hrw := HRW.out
        rw [List.take_of_length_le (by omega)] at hrw
        have rk1 := own_strs (P := fun k => w.heap.size ≤ k) (ownsRow_fr hrw (F5.trans FK) (fun k hk h => by
          have := HFS.out k hk
          have := hDn2 k hk
          omega)) (fun k hk => by have := HFS.out k hk; omega)
        have hbF : BoxT (V5.putObj D (.deferred none)) w.heap.size tt := hb5.fr FK (fun h => by have := HDB.out; omega)
        have HTT : Hid (GuessY R cnt w (.returned (.tuple #[tt.agg, .bool true])) (V5.putObj D (.deferred none))) := hide ⟨tt, rfl, by
            rw [htt, HI0.out, HS1.out, HI2.out]; unfold Tb.key; rw [HB2E.out], by
            rw [htt]
            exact ⟨rc1.1, hcl, by dsimp only; omega, rc1.2, rk1.1, by dsimp only; omega, by dsimp only; omega, rk1.2, H64.out⟩, (HFW.out.trans FA).mono (fun k hk h => by
            rcases h with h | h | h | h
            · exact h
            · omega
            · omega
            · have := HDB.out; omega)⟩
        have HBF := hide hbF
        have HD5 := hide hD5
        have HV5 := hide hV5
        clear hbz hb5 F5 hjn hDy FK hkl hcl FA hDn hDn2 rc1 rk1 hrw hbF hD5 hV5 htt hix hws hys hsl HHB HHR HFR HRW HFS HFY HBX
        go_wp2_with (rw [← HV5.out]; clear HV5)
        refine ⟨by simp, .inl ⟨_, _, rfl, run_takeDeferred HD5.out, ?_⟩⟩
        exact ⟨_, results_tb2 Try.results46 _ _ w.heap.size HBF.out rfl, HTT.out⟩
end Go.Proofs.Ytdeopneififnnaa
