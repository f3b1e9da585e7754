/- A table as a row. -/
import Derived.Test.YtdeopneififnnaaPb
namespace Go.Proofs.Ytdeopneififnnaa
open Go.RowKit
set_option maxRecDepth 100000
set_option linter.unusedVariables false
set_option linter.unusedSimpArgs false

/-- A value: a number or a text. -/
structure Vl where
  kind : Int
  int : Int
  text : ByteArray
deriving DecidableEq
def Vl.agg (x : Vl) : Value := .agg #[.int .i64 x.kind, .int .i64 x.int, .string x.text]
def Vl.cells (x : Vl) : List Value := [.int .i64 x.kind, .int .i64 x.int, .string x.text]
def num (n : Int) : Vl := ⟨1, n, ⟨#[]⟩⟩
def txt (s : ByteArray) : Vl := ⟨2, 0, s⟩
def encV (L : List Vl) : List Value := L.flatMap Vl.cells
theorem encV_length (L : List Vl) : (encV L).length = L.length * 3 := by
  induction L with
  | nil => rfl
  | cons c C ih =>
    have e : encV (c :: C) = c.cells ++ encV C := rfl
    rw [e, List.length_append, ih, List.length_cons, show c.cells.length = 3 from rfl]; omega
theorem encV_append (L M : List Vl) : encV (L ++ M) = encV L ++ encV M := by unfold encV; rw [List.flatMap_append]
theorem encV_one (L : List Vl) : ∀ u ∈ encV L, u.oneCell' = true := by
  intro u hu
  obtain ⟨c, _, hc⟩ := List.mem_flatMap.1 hu
  simp [Vl.cells] at hc
  rcases hc with rfl | rfl | rfl <;> rfl
theorem encV_get (L : List Vl) : ∀ (i : Nat) (x : Vl), L[i]? = some x → ∀ (j : Nat) (u : Value), x.cells[j]? = some u → (encV L)[i * 3 + j]? = some u := by
  induction L with
  | nil => intro i x h; simp at h
  | cons c C ih =>
    intro i x h j u hu
    have e : encV (c :: C) = c.cells ++ encV C := rfl
    have hj : j < 3 := by have := (List.getElem?_eq_some_iff.1 hu).1; exact this
    cases i with
    | zero =>
      simp at h; subst h
      rw [e, List.getElem?_append_left (by rw [show c.cells.length = 3 from rfl]; omega), Nat.zero_mul, Nat.zero_add]
      exact hu
    | succ i =>
      rw [e, List.getElem?_append_right (by rw [show c.cells.length = 3 from rfl]; omega), show (i + 1) * 3 + j - c.cells.length = i * 3 + j by rw [show c.cells.length = 3 from rfl]; omega]
      exact ih i x (by simpa using h) j u hu
theorem full56 : ∃ i, Try.prog.info? 56 = some i ∧ i.zero = some (.agg #[.int .i64 0, .int .i64 0, .string ⟨#[]⟩]) ∧ i.size = 3 ∧ i.bytes = 32 := by
  have h0 : (Try.prog.info? 56).isSome = true := by kernel_rfl
  have h1 : (Try.prog.info? 56).bind (·.zero) = some (.agg #[.int .i64 0, .int .i64 0, .string ⟨#[]⟩]) := by kernel_rfl
  have h2 : (Try.prog.info? 56).map (·.size) = some 3 := by kernel_rfl
  have h3 : (Try.prog.info? 56).map (·.bytes) = some 32 := by kernel_rfl
  obtain ⟨i, hi⟩ := Option.isSome_iff_exists.1 h0
  rw [hi] at h1 h2 h3
  exact ⟨i, hi, h1, Option.some.inj h2, Option.some.inj h3⟩
def BoxV (w : World) (g : Nat) (x : Vl) : Prop := w.heap[g]? = some (.cells #[.int .i64 x.kind, .int .i64 x.int, .string x.text] 56 (0, 0))
theorem BoxV.cells {w : World} {g : Nat} {x : Vl} (h : BoxV w g x) : w.cell? ⟨g, 0, none⟩ = some (.int .i64 x.kind) ∧ w.cell? ⟨g, 1, none⟩ = some (.int .i64 x.int) ∧ w.cell? ⟨g, 2, none⟩ = some (.string x.text) :=
  ⟨(cell_of_row _ _ _ _ _ _ h).trans rfl, (cell_of_row _ _ _ _ _ _ h).trans rfl, (cell_of_row _ _ _ _ _ _ h).trans rfl⟩
theorem results_v {fn : Func} {p : Tmp} (h : fn.results = #[.cell p 56]) (tmps : Array Value) (w : World) (g : Nat) {x : Vl} (ht : BoxV w g x) (hp : tmps.getD p undef = .pointer (some ⟨g, 0, none⟩)) :
    (results fn tmps).run Try.prog w = .ok x.agg w := by
  have hp' : tmps[p]?.getD undef = .pointer (some ⟨g, 0, none⟩) := by simpa using hp
  obtain ⟨c0, c1, c2⟩ := ht.cells
  have hr : w.rangeAt g 0 [.int .i64 x.kind, .int .i64 x.int, .string x.text] := by
    intro j v hv
    match j, hv with
    | 0, hv => cases hv; exact c0
    | 1, hv => cases hv; exact c1
    | 2, hv => cases hv; exact c2
  simp [results, h, hp', asAddr, Vl.agg, run_loadVar_mid (P := Try.prog) w g 0 56 [.int .i64 x.kind, .int .i64 x.int, .string x.text] _ hr Try.underlying56 rfl (by kernel_rfl)]
theorem number_any (n : Int) (w : World) : Calls Try.prog 44 #[.int .i64 n] w fun e w' => e = .returned (num n).agg ∧ Fr w w' (fun _ => False) := by
  obtain ⟨w1, hw1⟩ : ∃ w1, w1 = w.alloc (.cells #[.int .i64 1, .int .i64 n, .string ⟨#[]⟩] 56) := ⟨_, rfl⟩
  have b1 : BoxV w1 w.heap.size (num n) := by rw [hw1]; exact heap_alloc_new w _
  have HF := hide (show Fr w w1 (fun _ => False) by rw [hw1]; exact Fr.alloc w _ _)
  have HB := hide b1
  have HW := hide hw1
  clear b1 hw1
  go_enter Try.func44, Try.ntmps44
  go_wp2_with (rw [← HW.out]; clear HW)
  refine bodyPost_ret (results_v Try.results44 _ _ w.heap.size HB.out rfl) rfl ⟨rfl, HF.out⟩
theorem text_any (s : ByteArray) (w : World) : Calls Try.prog 45 #[.string s] w fun e w' => e = .returned (txt s).agg ∧ Fr w w' (fun _ => False) := by
  obtain ⟨w1, hw1⟩ : ∃ w1, w1 = w.alloc (.cells #[.int .i64 2, .int .i64 0, .string s] 56) := ⟨_, rfl⟩
  have b1 : BoxV w1 w.heap.size (txt s) := by rw [hw1]; exact heap_alloc_new w _
  have HF := hide (show Fr w w1 (fun _ => False) by rw [hw1]; exact Fr.alloc w _ _)
  have HB := hide b1
  have HW := hide hw1
  clear b1 hw1
  go_enter Try.func45, Try.ntmps45
  go_wp2_with (rw [← HW.out]; clear HW)
  refine bodyPost_ret (results_v Try.results45 _ _ w.heap.size HB.out rfl) rfl ⟨rfl, HF.out⟩
/-- A row of values that the call makes. -/
def GV (w W : World) (v : Value) (L : List Vl) : Prop := W.ownsRow 0 56 3 v L.length (encV L) ∧ Fr w W (fun _ => False) ∧ ∀ k, v.ownBlock = some k → w.heap.size ≤ k
theorem GV.fr {w W W' : World} {v : Value} {L : List Vl} (h : GV w W v L) (f : Fr W W' (fun _ => False)) : GV w W' v L := ⟨ownsRow_fr h.1 f (fun _ _ h => h), h.2.1.two f, h.2.2⟩
theorem GV.push {w W : World} {v : Value} {L : List Vl} (h : GV w W v L) (M : List Vl) (m : Nat) (hm : M.length = m) (ty : TypeId) (cs : Array Value) (hcs : cs = (encV M).toArray) (hn : L.length + m ≤ 4194304) :
    ∃ a c W', (Builtin.append_ #[46, 46] ty #[v, .slice (some ⟨W.heap.size, 0, none⟩) m m]).run Try.prog (W.alloc (.cells cs 56)) = .ok (.slice a (L.length + m) c) W' ∧ GV w W' (.slice a (L.length + m) c) (L ++ M) := by
  subst hcs
  have F1 := Fr.alloc W (.cells (encV M).toArray 56) (fun _ => False)
  have b := heap_alloc_new W (.cells (encV M).toArray 56)
  obtain ⟨i, hi, hz, hs, hb⟩ := full56
  obtain ⟨v', W', hr, q1, q2, q3⟩ := run_append_gen (P := Try.prog) (W.alloc (.cells (encV M).toArray 56)) 46 ty 56 i _ 3 32 Try.underlying46 hi hz hs hb rfl (by omega) v L.length (encV L) (ownsRow_fr h.1 F1 (fun _ _ h => h)) ⟨W.heap.size, 0, none⟩ m m (encV M) (by rw [encV_length, hm]) (fun j u hu => by
    rw [Addr.add_mid, Nat.zero_add]
    exact (cell_of_row _ _ _ _ _ _ b).trans (by simpa using hu)) (encV_one M) (by unfold maxLen; omega) (by omega)
  obtain ⟨a, c, rfl⟩ := shape_n q1
  refine ⟨a, c, W', hr, ?_, ?_, fun k hk => ?_⟩
  · rw [List.length_append, encV_append, hm]
    exact q1
  · exact ((h.2.1.two F1).trans (Fr.grown q2)).mono (fun k hk hh => by rcases hh with hh | hh; exact hh; (have := h.2.2 k hh; omega))
  · rcases q3 with q | ⟨p, q, hp⟩
    · exact h.2.2 k (q ▸ hk)
    · rw [q] at hk; cases hk
      have := h.2.1.size
      have := F1.size
      omega
def bit (b : Bool) : Int := if b then 1 else 0
def colV (c : Cn) : List Vl := [txt c.name, num c.kind]
theorem colV_len (L : List Cn) : (L.flatMap colV).length = L.length * 2 := by
  induction L with
  | nil => rfl
  | cons c C ih => rw [List.flatMap_cons, List.length_append, ih, List.length_cons, show (colV c).length = 2 from rfl]; omega
/-- A table as a row. -/
def rowP (t : Tb) : List Vl := [num t.id, txt t.name, num (bit t.ix), num (t.C.length : Int)] ++ t.C.flatMap colV ++ t.K.map txt
theorem GV.built {w W : World} (hf : Fr w W (fun _ => False)) (M : List Vl) (n : Nat) (hn : M.length = n) (hb : n ≤ 1048576) (cs : Array Value) (hcs : cs = (encV M).toArray) : GV w (W.alloc (.cells cs 56)) (.slice (some ⟨W.heap.size, 0, none⟩) n n) M := by
  subst hcs
  refine ⟨⟨by rw [encV_length], .inr ⟨W.heap.size, n, (encV M).toArray, by rw [hn], Nat.zero_le _, heap_alloc_new W _, by omega, by unfold maxLen; omega, by simp [encV_length, hn], ?_⟩⟩, hf.two (Fr.alloc _ _ _), fun k hk => ?_⟩
  · exact List.take_of_length_le (by rw [encV_length]; exact Nat.le_refl _)
  · cases hk; exact hf.size
set_option maxHeartbeats 8000000 in
theorem row_any {P : Nat → Prop} {w : World} (t : Tb) (h : TabIn P w t) : Calls Try.prog 22 #[t.agg] w fun e w' => ∃ v, e = .returned v ∧ GV w w' v (rowP t) := by
  obtain ⟨w1, hw1⟩ : ∃ w1, w1 = w.alloc (.cells #[.int .i64 t.id, .string t.name, .slice t.ca t.cn t.cc, .slice t.ka t.kn t.kc, .bool t.ix] 30) := ⟨_, rfl⟩
  have b1 : BoxT w1 w.heap.size t := by rw [hw1]; exact heap_alloc_new w _
  have f1 : Fr w w1 (fun _ => False) := by rw [hw1]; exact Fr.alloc w _ _
  obtain ⟨x0, x1, x2, x3, x4⟩ := b1.cells
  have HT1 := hide (h.fr f1 (fun _ _ h => h))
  have HB1 := hide b1
  have HF1 := hide f1
  have HW := hide hw1
  have hcb := h.cb
  have hkb := h.kb
  have HCN := hide h.cn
  have HKN := hide h.kn
  clear h b1 f1 hw1
  unfold Tb.agg
  cases hix : t.ix
  · have HIX := hide hix
    rw [hix] at x4
    rw [hix] at HW
    clear hix
    go_enter Try.func22, Try.ntmps22
    go_wp2_with (rw [← HW.out]; clear HW)
    replace HB1 := hide (HB1.out.fr (Fr.drew w1 (fun _ => False)) (fun h => h))
    replace HT1 := hide (HT1.out.fr (Fr.drew w1 (fun _ => False)) (fun _ _ h => h))
    replace HF1 := hide (HF1.out.two (Fr.drew w1 _))
    refine wp_region_K (fun z => decide (z < 12)) (fun U : World => Fr w1.drew U (fun _ => False)) (by kernel_rfl) ?_
    generalize w1.drew = U0 at *
    have hS : (fun U : World => Fr U0 U (fun _ => False)) U0 := Fr.refl _ _
    clear x0 x1 x2 x3 x4
    refine wpAnyK_takeTo 0 (some 11) (.pointer (some ⟨w.heap.size, 0, none⟩)) [1, 2, 5, 7, 11, 12, 13] rfl rfl (by kernel_rfl) (by kernel_rfl) (by kernel_rfl) (by kernel_rfl) (fun _ _ _ h => h) hS (Or.inl ⟨rfl, fun w1 hw1 => by obtain ⟨x0, x1, x2, x3, x4⟩ := (HB1.out.fr hw1 (fun h => h)).cells; go_simp⟩) ?_
    simp only [Act.put, List.setIfInBounds_toArray, List.set_cons_zero, List.set_cons_succ]
    refine wpAnyK_takeTo 1 (some 12) (.int .i64 t.id) [2, 5, 7, 11, 12, 13] rfl rfl (by kernel_rfl) (by kernel_rfl) (by kernel_rfl) (by kernel_rfl) (fun _ _ _ h => h) hS (Or.inl ⟨rfl, fun w1 hw1 => by obtain ⟨x0, x1, x2, x3, x4⟩ := (HB1.out.fr hw1 (fun h => h)).cells; go_simp⟩) ?_
    simp only [Act.put, List.setIfInBounds_toArray, List.set_cons_zero, List.set_cons_succ]
    refine wpAnyK_takeTo 3 (some 14) (.pointer (some ⟨w.heap.size, 1, none⟩)) [4, 5, 7, 11, 12, 13] rfl rfl (by kernel_rfl) (by kernel_rfl) (by kernel_rfl) (by kernel_rfl) (fun _ _ _ h => h) hS (Or.inl ⟨rfl, fun w1 hw1 => by obtain ⟨x0, x1, x2, x3, x4⟩ := (HB1.out.fr hw1 (fun h => h)).cells; go_simp⟩) ?_
    simp only [Act.put, List.setIfInBounds_toArray, List.set_cons_zero, List.set_cons_succ]
    refine wpAnyK_takeTo 4 (some 15) (.string t.name) [5, 7, 11, 12, 13] rfl rfl (by kernel_rfl) (by kernel_rfl) (by kernel_rfl) (by kernel_rfl) (fun _ _ _ h => h) hS (Or.inl ⟨rfl, fun w1 hw1 => by obtain ⟨x0, x1, x2, x3, x4⟩ := (HB1.out.fr hw1 (fun h => h)).cells; go_simp⟩) ?_
    simp only [Act.put, List.setIfInBounds_toArray, List.set_cons_zero, List.set_cons_succ]
    refine wpAnyK_takeTo 6 (some 17) (.int .i64 0) [7, 11, 12, 13] rfl rfl (by kernel_rfl) (by kernel_rfl) (by kernel_rfl) (by kernel_rfl) (fun _ _ _ h => h) hS (Or.inl ⟨rfl, fun w1 hw1 => by obtain ⟨x0, x1, x2, x3, x4⟩ := (HB1.out.fr hw1 (fun h => h)).cells; go_simp⟩) ?_
    simp only [Act.put, List.setIfInBounds_toArray, List.set_cons_zero, List.set_cons_succ]
    refine wpAnyK_takeTo 8 (some 19) (.pointer (some ⟨w.heap.size, 2, none⟩)) [9, 10, 11, 12, 13] rfl rfl (by kernel_rfl) (by kernel_rfl) (by kernel_rfl) (by kernel_rfl) (fun _ _ _ h => h) hS (Or.inl ⟨rfl, fun w1 hw1 => by obtain ⟨x0, x1, x2, x3, x4⟩ := (HB1.out.fr hw1 (fun h => h)).cells; go_simp⟩) ?_
    simp only [Act.put, List.setIfInBounds_toArray, List.set_cons_zero, List.set_cons_succ]
    refine wpAnyK_takeTo 9 (some 20) (.slice t.ca t.cn t.cc) [10, 11, 12, 13] rfl rfl (by kernel_rfl) (by kernel_rfl) (by kernel_rfl) (by kernel_rfl) (fun _ _ _ h => h) hS (Or.inl ⟨rfl, fun w1 hw1 => by obtain ⟨x0, x1, x2, x3, x4⟩ := (HB1.out.fr hw1 (fun h => h)).cells; go_simp⟩) ?_
    simp only [Act.put, List.setIfInBounds_toArray, List.set_cons_zero, List.set_cons_succ]
    refine wpAnyK_takeTo 10 (some 21) (.int .i64 (t.cn : Int)) [11, 12, 13] rfl rfl (by kernel_rfl) (by kernel_rfl) (by kernel_rfl) (by kernel_rfl) (fun _ _ _ h => h) hS (Or.inl ⟨rfl, fun w1 hw1 => by obtain ⟨x0, x1, x2, x3, x4⟩ := (HB1.out.fr hw1 (fun h => h)).cells; go_simp⟩) ?_
    simp only [Act.put, List.setIfInBounds_toArray, List.set_cons_zero, List.set_cons_succ]
    clear hS
    refine wpAnyK_one (i := 2) (by kernel_rfl) rfl rfl ?_
    refine wp_call_to (some 13) rfl 44 #[.int .i64 t.id] (by go_simp) (number_any t.id _) ?_
    rintro e U1 ⟨rfl, g1⟩
    refine ⟨_, rfl, fun _ => g1, ?_⟩
    simp only [Act.put, List.setIfInBounds_toArray, List.set_cons_zero, List.set_cons_succ]
    refine wpAnyK_one (i := 5) (by kernel_rfl) rfl rfl ?_
    refine wp_call_to (some 16) rfl 45 #[.string t.name] (by go_simp) (text_any t.name _) ?_
    rintro e U2 ⟨rfl, g2⟩
    replace g2 := g1.two g2
    clear g1
    refine ⟨_, rfl, fun _ => g2, ?_⟩
    simp only [Act.put, List.setIfInBounds_toArray, List.set_cons_zero, List.set_cons_succ]
    refine wpAnyK_one (i := 7) (by kernel_rfl) rfl rfl ?_
    refine wp_call_to (some 18) rfl 44 #[.int .i64 0] (by go_simp) (number_any 0 _) ?_
    rintro e U3 ⟨rfl, g3⟩
    replace g3 := g2.two g3
    clear g2
    refine ⟨_, rfl, fun _ => g3, ?_⟩
    simp only [Act.put, List.setIfInBounds_toArray, List.set_cons_zero, List.set_cons_succ]
    refine wpAnyK_one (i := 11) (by kernel_rfl) rfl rfl ?_
    refine wp_call_to (some 22) rfl 44 #[.int .i64 (t.cn : Int)] (by go_simp) (number_any (t.cn : Int) _) ?_
    rintro e U4 ⟨rfl, g4⟩
    replace g4 := g3.two g4
    clear g3
    refine ⟨_, rfl, fun _ => g4, ?_⟩
    simp only [Act.put, List.setIfInBounds_toArray, List.set_cons_zero, List.set_cons_succ, Vl.agg, num, txt]
    have HF4 := hide g4
    clear g4
    obtain ⟨U5, hU5⟩ : ∃ U5, U5 = U4.alloc (.cells #[.int .i64 1, .int .i64 t.id, .string ⟨#[]⟩, .int .i64 2, .int .i64 0, .string t.name, .int .i64 1, .int .i64 0, .string ⟨#[]⟩, .int .i64 1, .int .i64 (t.cn : Int), .string ⟨#[]⟩] 56) := ⟨_, rfl⟩
    have HG5 : Hid (GV U0 U5 (.slice (some ⟨U4.heap.size, 0, none⟩) 4 4) [num t.id, txt t.name, num (bit t.ix), num (t.C.length : Int)]) := hide (by
      rw [hU5, HIX.out, HCN.out]
      exact GV.built HF4.out [num t.id, txt t.name, num 0, num (t.cn : Int)] 4 rfl (by omega) _ rfl)
    have HB5 := hide (HB1.out.fr HG5.out.2.1 (fun h => h))
    have HU5 := hide hU5
    clear HF4 hU5
    refine wpAnyK_one (i := 12) (by kernel_rfl) rfl rfl ?_
    go_simp
    rw [← HU5.out]
    refine wpAnyK_one (i := 13) (by kernel_rfl) rfl rfl ?_
    go_simp
    refine wpAnyK_done (by kernel_rfl) ?_ _
    generalize hH : [num t.id, txt t.name, num (bit t.ix), num (t.C.length : Int)] = H at HG5
    have HHD := hide hH
    have hHl : H.length = 4 := by rw [← hH]; rfl
    have HHL := hide hHl
    clear hH hHl HU5
    obtain ⟨x0, x1, x2, x3, x4⟩ := HB5.out.cells
    generalize some (⟨U4.heap.size, 0, none⟩ : Addr) = sa at *
    go_wp2_with fail
    go_loopw [4, 27] (fun v ix wr => ∃ j : Nat, j ≤ t.cn ∧ ix = .int .i64 (j : Int) ∧ GV U0 wr v (H ++ (t.C.take j).flatMap colV)) (fun _ ix _ => t.cn - (intOf ix).toNat)
    case atStart => exact ⟨0, Nat.zero_le _, rfl, by rw [List.take_zero, List.flatMap_nil, List.append_nil]; exact HG5.out⟩
    case round =>
      rename World => W
      obtain ⟨j, hj, rfl, hg⟩ := hrel
      obtain ⟨av, mv, cv, rfl⟩ := ownsRow_shape hg.1
      have HG := hide hg
      clear hg x0 x1 x2 x3 x4 HB5 HG5
      rcases Nat.lt_or_ge j t.cn with hlt | hge
      · obtain ⟨x, hx⟩ : ∃ x, t.C[j]? = some x := ⟨_, List.getElem?_eq_getElem (by rw [HCN.out]; exact hlt)⟩
        obtain ⟨g, off, ha, _, e0, e1⟩ := (HT1.out.cols.fr HG.out.2.1 (fun _ _ h => h)) j x hx
        rw [ha]
        have HX := hide hx
        obtain ⟨Wb, hWb⟩ : ∃ Wb, Wb = W.alloc (.cells #[.string x.name, .int .i64 x.kind] 37) := ⟨_, rfl⟩
        have fb : Fr W Wb (fun _ => False) := by rw [hWb]; exact Fr.alloc W _ _
        have bb : Wb.heap[W.heap.size]? = some (.cells #[.string x.name, .int .i64 x.kind] 37 (0, 0)) := by rw [hWb]; exact heap_alloc_new W _
        have HK0 : Hid (Wb.drew.cell? ⟨W.heap.size, 0, none⟩ = some (.string x.name)) := hide ((cell_of_row _ _ _ _ _ _ bb).trans rfl)
        have HK1 : Hid (Wb.drew.cell? ⟨W.heap.size, 1, none⟩ = some (.int .i64 x.kind)) := hide ((cell_of_row _ _ _ _ _ _ bb).trans rfl)
        replace HG := hide (HG.out.fr (fb.two (Fr.drew Wb _)))
        have HWb := hide hWb
        clear hx hWb fb bb
        go_wp2_with (rw [← HWb.out]; clear HWb)
        refine wp_region_K (fun z => decide (z < 8)) (fun U : World => Fr Wb.drew U (fun _ => False)) (by kernel_rfl) ?_
        have k0 := HK0.out
        have k1 := HK1.out
        generalize W.heap.size = gx at *
        generalize Wb.drew = V0 at *
        have hS : (fun U : World => Fr V0 U (fun _ => False)) V0 := Fr.refl _ _
        clear e0 e1
        refine wpAnyK_takeTo 0 (some 31) (.slice av mv cv) [8, 9] rfl rfl (by kernel_rfl) (by kernel_rfl) (by kernel_rfl) (by kernel_rfl) (fun _ _ _ h => h) hS (Or.inl ⟨rfl, fun w1 hw1 => by have y0 := hw1.cell (fun h => h) k0; have y1 := hw1.cell (fun h => h) k1; go_simp⟩) ?_
        simp only [Act.put, List.setIfInBounds_toArray, List.set_cons_zero, List.set_cons_succ]
        refine wpAnyK_takeTo 1 (some 32) (.pointer (some ⟨gx, 0, none⟩)) [2, 3, 6, 7, 8, 9] rfl rfl (by kernel_rfl) (by kernel_rfl) (by kernel_rfl) (by kernel_rfl) (fun _ _ _ h => h) hS (Or.inl ⟨rfl, fun w1 hw1 => by have y0 := hw1.cell (fun h => h) k0; have y1 := hw1.cell (fun h => h) k1; go_simp⟩) ?_
        simp only [Act.put, List.setIfInBounds_toArray, List.set_cons_zero, List.set_cons_succ]
        refine wpAnyK_takeTo 2 (some 33) (.string x.name) [3, 6, 7, 8, 9] rfl rfl (by kernel_rfl) (by kernel_rfl) (by kernel_rfl) (by kernel_rfl) (fun _ _ _ h => h) hS (Or.inl ⟨rfl, fun w1 hw1 => by have y0 := hw1.cell (fun h => h) k0; have y1 := hw1.cell (fun h => h) k1; go_simp⟩) ?_
        simp only [Act.put, List.setIfInBounds_toArray, List.set_cons_zero, List.set_cons_succ]
        refine wpAnyK_takeTo 4 (some 35) (.pointer (some ⟨gx, 1, none⟩)) [5, 6, 7, 8, 9] rfl rfl (by kernel_rfl) (by kernel_rfl) (by kernel_rfl) (by kernel_rfl) (fun _ _ _ h => h) hS (Or.inl ⟨rfl, fun w1 hw1 => by have y0 := hw1.cell (fun h => h) k0; have y1 := hw1.cell (fun h => h) k1; go_simp⟩) ?_
        simp only [Act.put, List.setIfInBounds_toArray, List.set_cons_zero, List.set_cons_succ]
        refine wpAnyK_takeTo 5 (some 36) (.int .i64 x.kind) [6, 7, 8, 9] rfl rfl (by kernel_rfl) (by kernel_rfl) (by kernel_rfl) (by kernel_rfl) (fun _ _ _ h => h) hS (Or.inl ⟨rfl, fun w1 hw1 => by have y0 := hw1.cell (fun h => h) k0; have y1 := hw1.cell (fun h => h) k1; go_simp⟩) ?_
        simp only [Act.put, List.setIfInBounds_toArray, List.set_cons_zero, List.set_cons_succ]
        clear hS
        refine wpAnyK_one (i := 3) (by kernel_rfl) rfl rfl ?_
        refine wp_call_to (some 34) rfl 45 #[.string x.name] (by go_simp) (text_any x.name _) ?_
        rintro e V1 ⟨rfl, g1⟩
        refine ⟨_, rfl, fun _ => g1, ?_⟩
        simp only [Act.put, List.setIfInBounds_toArray, List.set_cons_zero, List.set_cons_succ]
        refine wpAnyK_one (i := 6) (by kernel_rfl) rfl rfl ?_
        refine wp_call_to (some 37) rfl 44 #[.int .i64 x.kind] (by go_simp) (number_any x.kind _) ?_
        rintro e V2 ⟨rfl, g2⟩
        replace g2 := g1.two g2
        clear g1
        refine ⟨_, rfl, fun _ => g2, ?_⟩
        simp only [Act.put, List.setIfInBounds_toArray, List.set_cons_zero, List.set_cons_succ, Vl.agg, num, txt]
        obtain ⟨a3, c3, V3, hr, hg3⟩ := (HG.out.fr g2).push (colV x) 2 rfl 46 #[.int .i64 2, .int .i64 0, .string x.name, .int .i64 1, .int .i64 x.kind, .string ⟨#[]⟩] rfl (by
          rw [List.length_append, colV_len, HHL.out, List.length_take]; omega)
        obtain ⟨m3, hm3⟩ : ∃ m3, m3 = (H ++ (t.C.take j).flatMap colV).length + 2 := ⟨_, rfl⟩
        rw [← hm3] at hr hg3
        have HG3 : Hid (GV U0 V3 (.slice a3 m3 c3) (H ++ (t.C.take (j + 1)).flatMap colV)) := hide (by
          rw [List.take_add_one, HX.out, List.flatMap_append, ← List.append_assoc]
          simpa using hg3)
        have HS2 := hide (g2.two (Fr.alloc V2 (.cells #[.int .i64 2, .int .i64 0, .string x.name, .int .i64 1, .int .i64 x.kind, .string ⟨#[]⟩] 56) _))
        clear hg3 hm3 g2 k0 k1 HK0 HK1 HG
        refine wpAnyK_one (i := 7) (by kernel_rfl) rfl rfl ?_
        go_simp
        refine ⟨HS2.out, ?_⟩
        refine wpAnyK_one (i := 8) (by kernel_rfl) rfl rfl ?_
        refine wp_append_to (.tmp 31) (.tmp 38) 46 rfl (some 39) rfl 46 rfl (.slice av mv cv) (.slice (some ⟨V2.heap.size, 0, none⟩) 2 2) rfl rfl _ _ hr ⟨fun h => by simp at h, ?_⟩
        simp only [Act.put, List.setIfInBounds_toArray, List.set_cons_zero, List.set_cons_succ]
        clear hr HS2
        refine wpAnyK_one (i := 9) (by kernel_rfl) rfl rfl ?_
        go_simp
        refine wpAnyK_done (by kernel_rfl) ?_ _
        go_wp2
        go_roundw
        case rel => exact ⟨j + 1, by omega, by go_num, HG3.out⟩
        case measure => simp [intOf]; omega
      · have hcj : ¬ ((j : Int) < (t.cn : Int)) := by omega
        have hcjb : decide ((j : Int) < (t.cn : Int)) = false := by simp; omega
        have hg := HG.out
        rw [List.take_of_length_le (by rw [HCN.out]; exact hge)] at hg
        generalize hH2 : H ++ t.C.flatMap colV = H2 at hg
        have HH2 := hide hH2
        have HG2 := hide hg
        have hH2l : H2.length = 4 + t.cn * 2 := by
          rw [← hH2, List.length_append, HHL.out, colV_len, HCN.out]
        have HHL2 := hide hH2l
        obtain ⟨x0, x1, x2, x3, x4⟩ := (HB1.out.fr HG2.out.2.1 (fun h => h)).cells
        clear hg hH2 HG hH2l
        go_wp2_with fail
        go_loopw [4, 44] (fun v ix wr => ∃ j : Nat, j ≤ t.kn ∧ ix = .int .i64 (j : Int) ∧ GV U0 wr v (H2 ++ (t.K.take j).map txt)) (fun _ ix _ => t.kn - (intOf ix).toNat)
        case atStart => exact ⟨0, Nat.zero_le _, rfl, by rw [List.take_zero, List.map_nil, List.append_nil]; exact HG2.out⟩
        case round =>
          rename World => Y
          obtain ⟨i, hi, rfl, hg⟩ := hrel
          obtain ⟨bv, nv, dv, rfl⟩ := ownsRow_shape hg.1
          have HG := hide hg
          clear hg x0 x1 x2 x3 x4 HG2
          rcases Nat.lt_or_ge i t.kn with hlt | hge2
          · obtain ⟨x, hx⟩ : ∃ x, t.K[i]? = some x := ⟨_, List.getElem?_eq_getElem (by rw [HKN.out]; exact hlt)⟩
            obtain ⟨g, off, ha, _, e0⟩ := (HT1.out.keys.fr HG.out.2.1 (fun _ _ h => h)) i x hx
            rw [ha]
            have HX := hide hx
            have HTX := hide (text_any x Y)
            clear hx
            go_wp2_with fail
            refine HTX.out.mono ?_
            rintro e Y1 ⟨rfl, g1⟩
            simp only [Vl.agg, txt]
            obtain ⟨a3, c3, V3, hr, hg3⟩ := (HG.out.fr g1).push [txt x] 1 rfl 46 #[.int .i64 2, .int .i64 0, .string x] rfl (by
              rw [List.length_append, HHL2.out, List.length_map, List.length_take]; omega)
            obtain ⟨m3, hm3⟩ : ∃ m3, m3 = (H2 ++ (t.K.take i).map txt).length + 1 := ⟨_, rfl⟩
            rw [← hm3] at hr hg3
            have HG3 : Hid (GV U0 V3 (.slice a3 m3 c3) (H2 ++ (t.K.take (i + 1)).map txt)) := hide (by
              rw [List.take_add_one, HX.out, List.map_append, ← List.append_assoc]
              simpa using hg3)
            clear hg3 hm3 g1 HG HTX e0
            go_wp2_with (refine wpList_plain rfl fun _ hK => wp_append_to (.tmp 48) (.tmp 51) 46 rfl _ rfl _ rfl (.slice bv nv dv) (.slice (some ⟨Y1.heap.size, 0, none⟩) 1 1) rfl rfl _ _ hr (hK _ _ ?_); clear hK)
            go_roundw
            case rel => exact ⟨i + 1, by omega, by go_num, HG3.out⟩
            case measure => simp [intOf]; omega
          · have hci : ¬ ((i : Int) < (t.kn : Int)) := by omega
            have hcib : decide ((i : Int) < (t.kn : Int)) = false := by simp; omega
            have hg := HG.out
            rw [List.take_of_length_le (by rw [HKN.out]; exact hge2), ← HH2.out, ← HHD.out] at hg
            have HGE := hide hg
            clear hg HG
            go_wp2
            go_ret
            exact ⟨_, rfl, HGE.out.1, HF1.out.two HGE.out.2.1, fun k hk => Nat.le_trans HF1.out.size (HGE.out.2.2 k hk)⟩
  · have HIX := hide hix
    rw [hix] at x4
    rw [hix] at HW
    clear hix
    go_enter Try.func22, Try.ntmps22
    go_wp2_with (rw [← HW.out]; clear HW)
    replace HB1 := hide (HB1.out.fr (Fr.drew w1 (fun _ => False)) (fun h => h))
    replace HT1 := hide (HT1.out.fr (Fr.drew w1 (fun _ => False)) (fun _ _ h => h))
    replace HF1 := hide (HF1.out.two (Fr.drew w1 _))
    refine wp_region_K (fun z => decide (z < 12)) (fun U : World => Fr w1.drew U (fun _ => False)) (by kernel_rfl) ?_
    generalize w1.drew = U0 at *
    have hS : (fun U : World => Fr U0 U (fun _ => False)) U0 := Fr.refl _ _
    clear x0 x1 x2 x3 x4
    refine wpAnyK_takeTo 0 (some 11) (.pointer (some ⟨w.heap.size, 0, none⟩)) [1, 2, 5, 7, 11, 12, 13] rfl rfl (by kernel_rfl) (by kernel_rfl) (by kernel_rfl) (by kernel_rfl) (fun _ _ _ h => h) hS (Or.inl ⟨rfl, fun w1 hw1 => by obtain ⟨x0, x1, x2, x3, x4⟩ := (HB1.out.fr hw1 (fun h => h)).cells; go_simp⟩) ?_
    simp only [Act.put, List.setIfInBounds_toArray, List.set_cons_zero, List.set_cons_succ]
    refine wpAnyK_takeTo 1 (some 12) (.int .i64 t.id) [2, 5, 7, 11, 12, 13] rfl rfl (by kernel_rfl) (by kernel_rfl) (by kernel_rfl) (by kernel_rfl) (fun _ _ _ h => h) hS (Or.inl ⟨rfl, fun w1 hw1 => by obtain ⟨x0, x1, x2, x3, x4⟩ := (HB1.out.fr hw1 (fun h => h)).cells; go_simp⟩) ?_
    simp only [Act.put, List.setIfInBounds_toArray, List.set_cons_zero, List.set_cons_succ]
    refine wpAnyK_takeTo 3 (some 14) (.pointer (some ⟨w.heap.size, 1, none⟩)) [4, 5, 7, 11, 12, 13] rfl rfl (by kernel_rfl) (by kernel_rfl) (by kernel_rfl) (by kernel_rfl) (fun _ _ _ h => h) hS (Or.inl ⟨rfl, fun w1 hw1 => by obtain ⟨x0, x1, x2, x3, x4⟩ := (HB1.out.fr hw1 (fun h => h)).cells; go_simp⟩) ?_
    simp only [Act.put, List.setIfInBounds_toArray, List.set_cons_zero, List.set_cons_succ]
    refine wpAnyK_takeTo 4 (some 15) (.string t.name) [5, 7, 11, 12, 13] rfl rfl (by kernel_rfl) (by kernel_rfl) (by kernel_rfl) (by kernel_rfl) (fun _ _ _ h => h) hS (Or.inl ⟨rfl, fun w1 hw1 => by obtain ⟨x0, x1, x2, x3, x4⟩ := (HB1.out.fr hw1 (fun h => h)).cells; go_simp⟩) ?_
    simp only [Act.put, List.setIfInBounds_toArray, List.set_cons_zero, List.set_cons_succ]
    refine wpAnyK_takeTo 6 (some 17) (.int .i64 1) [7, 11, 12, 13] rfl rfl (by kernel_rfl) (by kernel_rfl) (by kernel_rfl) (by kernel_rfl) (fun _ _ _ h => h) hS (Or.inl ⟨rfl, fun w1 hw1 => by obtain ⟨x0, x1, x2, x3, x4⟩ := (HB1.out.fr hw1 (fun h => h)).cells; go_simp⟩) ?_
    simp only [Act.put, List.setIfInBounds_toArray, List.set_cons_zero, List.set_cons_succ]
    refine wpAnyK_takeTo 8 (some 19) (.pointer (some ⟨w.heap.size, 2, none⟩)) [9, 10, 11, 12, 13] rfl rfl (by kernel_rfl) (by kernel_rfl) (by kernel_rfl) (by kernel_rfl) (fun _ _ _ h => h) hS (Or.inl ⟨rfl, fun w1 hw1 => by obtain ⟨x0, x1, x2, x3, x4⟩ := (HB1.out.fr hw1 (fun h => h)).cells; go_simp⟩) ?_
    simp only [Act.put, List.setIfInBounds_toArray, List.set_cons_zero, List.set_cons_succ]
    refine wpAnyK_takeTo 9 (some 20) (.slice t.ca t.cn t.cc) [10, 11, 12, 13] rfl rfl (by kernel_rfl) (by kernel_rfl) (by kernel_rfl) (by kernel_rfl) (fun _ _ _ h => h) hS (Or.inl ⟨rfl, fun w1 hw1 => by obtain ⟨x0, x1, x2, x3, x4⟩ := (HB1.out.fr hw1 (fun h => h)).cells; go_simp⟩) ?_
    simp only [Act.put, List.setIfInBounds_toArray, List.set_cons_zero, List.set_cons_succ]
    refine wpAnyK_takeTo 10 (some 21) (.int .i64 (t.cn : Int)) [11, 12, 13] rfl rfl (by kernel_rfl) (by kernel_rfl) (by kernel_rfl) (by kernel_rfl) (fun _ _ _ h => h) hS (Or.inl ⟨rfl, fun w1 hw1 => by obtain ⟨x0, x1, x2, x3, x4⟩ := (HB1.out.fr hw1 (fun h => h)).cells; go_simp⟩) ?_
    simp only [Act.put, List.setIfInBounds_toArray, List.set_cons_zero, List.set_cons_succ]
    clear hS
    refine wpAnyK_one (i := 2) (by kernel_rfl) rfl rfl ?_
    refine wp_call_to (some 13) rfl 44 #[.int .i64 t.id] (by go_simp) (number_any t.id _) ?_
    rintro e U1 ⟨rfl, g1⟩
    refine ⟨_, rfl, fun _ => g1, ?_⟩
    simp only [Act.put, List.setIfInBounds_toArray, List.set_cons_zero, List.set_cons_succ]
    refine wpAnyK_one (i := 5) (by kernel_rfl) rfl rfl ?_
    refine wp_call_to (some 16) rfl 45 #[.string t.name] (by go_simp) (text_any t.name _) ?_
    rintro e U2 ⟨rfl, g2⟩
    replace g2 := g1.two g2
    clear g1
    refine ⟨_, rfl, fun _ => g2, ?_⟩
    simp only [Act.put, List.setIfInBounds_toArray, List.set_cons_zero, List.set_cons_succ]
    refine wpAnyK_one (i := 7) (by kernel_rfl) rfl rfl ?_
    refine wp_call_to (some 18) rfl 44 #[.int .i64 1] (by go_simp) (number_any 1 _) ?_
    rintro e U3 ⟨rfl, g3⟩
    replace g3 := g2.two g3
    clear g2
    refine ⟨_, rfl, fun _ => g3, ?_⟩
    simp only [Act.put, List.setIfInBounds_toArray, List.set_cons_zero, List.set_cons_succ]
    refine wpAnyK_one (i := 11) (by kernel_rfl) rfl rfl ?_
    refine wp_call_to (some 22) rfl 44 #[.int .i64 (t.cn : Int)] (by go_simp) (number_any (t.cn : Int) _) ?_
    rintro e U4 ⟨rfl, g4⟩
    replace g4 := g3.two g4
    clear g3
    refine ⟨_, rfl, fun _ => g4, ?_⟩
    simp only [Act.put, List.setIfInBounds_toArray, List.set_cons_zero, List.set_cons_succ, Vl.agg, num, txt]
    have HF4 := hide g4
    clear g4
    obtain ⟨U5, hU5⟩ : ∃ U5, U5 = U4.alloc (.cells #[.int .i64 1, .int .i64 t.id, .string ⟨#[]⟩, .int .i64 2, .int .i64 0, .string t.name, .int .i64 1, .int .i64 1, .string ⟨#[]⟩, .int .i64 1, .int .i64 (t.cn : Int), .string ⟨#[]⟩] 56) := ⟨_, rfl⟩
    have HG5 : Hid (GV U0 U5 (.slice (some ⟨U4.heap.size, 0, none⟩) 4 4) [num t.id, txt t.name, num (bit t.ix), num (t.C.length : Int)]) := hide (by
      rw [hU5, HIX.out, HCN.out]
      exact GV.built HF4.out [num t.id, txt t.name, num 1, num (t.cn : Int)] 4 rfl (by omega) _ rfl)
    have HB5 := hide (HB1.out.fr HG5.out.2.1 (fun h => h))
    have HU5 := hide hU5
    clear HF4 hU5
    refine wpAnyK_one (i := 12) (by kernel_rfl) rfl rfl ?_
    go_simp
    rw [← HU5.out]
    refine wpAnyK_one (i := 13) (by kernel_rfl) rfl rfl ?_
    go_simp
    refine wpAnyK_done (by kernel_rfl) ?_ _
    generalize hH : [num t.id, txt t.name, num (bit t.ix), num (t.C.length : Int)] = H at HG5
    have HHD := hide hH
    have hHl : H.length = 4 := by rw [← hH]; rfl
    have HHL := hide hHl
    clear hH hHl HU5
    obtain ⟨x0, x1, x2, x3, x4⟩ := HB5.out.cells
    generalize some (⟨U4.heap.size, 0, none⟩ : Addr) = sa at *
    go_wp2_with fail
    go_loopw [4, 27] (fun v ix wr => ∃ j : Nat, j ≤ t.cn ∧ ix = .int .i64 (j : Int) ∧ GV U0 wr v (H ++ (t.C.take j).flatMap colV)) (fun _ ix _ => t.cn - (intOf ix).toNat)
    case atStart => exact ⟨0, Nat.zero_le _, rfl, by rw [List.take_zero, List.flatMap_nil, List.append_nil]; exact HG5.out⟩
    case round =>
      rename World => W
      obtain ⟨j, hj, rfl, hg⟩ := hrel
      obtain ⟨av, mv, cv, rfl⟩ := ownsRow_shape hg.1
      have HG := hide hg
      clear hg x0 x1 x2 x3 x4 HB5 HG5
      rcases Nat.lt_or_ge j t.cn with hlt | hge
      · obtain ⟨x, hx⟩ : ∃ x, t.C[j]? = some x := ⟨_, List.getElem?_eq_getElem (by rw [HCN.out]; exact hlt)⟩
        obtain ⟨g, off, ha, _, e0, e1⟩ := (HT1.out.cols.fr HG.out.2.1 (fun _ _ h => h)) j x hx
        rw [ha]
        have HX := hide hx
        obtain ⟨Wb, hWb⟩ : ∃ Wb, Wb = W.alloc (.cells #[.string x.name, .int .i64 x.kind] 37) := ⟨_, rfl⟩
        have fb : Fr W Wb (fun _ => False) := by rw [hWb]; exact Fr.alloc W _ _
        have bb : Wb.heap[W.heap.size]? = some (.cells #[.string x.name, .int .i64 x.kind] 37 (0, 0)) := by rw [hWb]; exact heap_alloc_new W _
        have HK0 : Hid (Wb.drew.cell? ⟨W.heap.size, 0, none⟩ = some (.string x.name)) := hide ((cell_of_row _ _ _ _ _ _ bb).trans rfl)
        have HK1 : Hid (Wb.drew.cell? ⟨W.heap.size, 1, none⟩ = some (.int .i64 x.kind)) := hide ((cell_of_row _ _ _ _ _ _ bb).trans rfl)
        replace HG := hide (HG.out.fr (fb.two (Fr.drew Wb _)))
        have HWb := hide hWb
        clear hx hWb fb bb
        go_wp2_with (rw [← HWb.out]; clear HWb)
        refine wp_region_K (fun z => decide (z < 8)) (fun U : World => Fr Wb.drew U (fun _ => False)) (by kernel_rfl) ?_
        have k0 := HK0.out
        have k1 := HK1.out
        generalize W.heap.size = gx at *
        generalize Wb.drew = V0 at *
        have hS : (fun U : World => Fr V0 U (fun _ => False)) V0 := Fr.refl _ _
        clear e0 e1
        refine wpAnyK_takeTo 0 (some 31) (.slice av mv cv) [8, 9] rfl rfl (by kernel_rfl) (by kernel_rfl) (by kernel_rfl) (by kernel_rfl) (fun _ _ _ h => h) hS (Or.inl ⟨rfl, fun w1 hw1 => by have y0 := hw1.cell (fun h => h) k0; have y1 := hw1.cell (fun h => h) k1; go_simp⟩) ?_
        simp only [Act.put, List.setIfInBounds_toArray, List.set_cons_zero, List.set_cons_succ]
        refine wpAnyK_takeTo 1 (some 32) (.pointer (some ⟨gx, 0, none⟩)) [2, 3, 6, 7, 8, 9] rfl rfl (by kernel_rfl) (by kernel_rfl) (by kernel_rfl) (by kernel_rfl) (fun _ _ _ h => h) hS (Or.inl ⟨rfl, fun w1 hw1 => by have y0 := hw1.cell (fun h => h) k0; have y1 := hw1.cell (fun h => h) k1; go_simp⟩) ?_
        simp only [Act.put, List.setIfInBounds_toArray, List.set_cons_zero, List.set_cons_succ]
        refine wpAnyK_takeTo 2 (some 33) (.string x.name) [3, 6, 7, 8, 9] rfl rfl (by kernel_rfl) (by kernel_rfl) (by kernel_rfl) (by kernel_rfl) (fun _ _ _ h => h) hS (Or.inl ⟨rfl, fun w1 hw1 => by have y0 := hw1.cell (fun h => h) k0; have y1 := hw1.cell (fun h => h) k1; go_simp⟩) ?_
        simp only [Act.put, List.setIfInBounds_toArray, List.set_cons_zero, List.set_cons_succ]
        refine wpAnyK_takeTo 4 (some 35) (.pointer (some ⟨gx, 1, none⟩)) [5, 6, 7, 8, 9] rfl rfl (by kernel_rfl) (by kernel_rfl) (by kernel_rfl) (by kernel_rfl) (fun _ _ _ h => h) hS (Or.inl ⟨rfl, fun w1 hw1 => by have y0 := hw1.cell (fun h => h) k0; have y1 := hw1.cell (fun h => h) k1; go_simp⟩) ?_
        simp only [Act.put, List.setIfInBounds_toArray, List.set_cons_zero, List.set_cons_succ]
        refine wpAnyK_takeTo 5 (some 36) (.int .i64 x.kind) [6, 7, 8, 9] rfl rfl (by kernel_rfl) (by kernel_rfl) (by kernel_rfl) (by kernel_rfl) (fun _ _ _ h => h) hS (Or.inl ⟨rfl, fun w1 hw1 => by have y0 := hw1.cell (fun h => h) k0; have y1 := hw1.cell (fun h => h) k1; go_simp⟩) ?_
        simp only [Act.put, List.setIfInBounds_toArray, List.set_cons_zero, List.set_cons_succ]
        clear hS
        refine wpAnyK_one (i := 3) (by kernel_rfl) rfl rfl ?_
        refine wp_call_to (some 34) rfl 45 #[.string x.name] (by go_simp) (text_any x.name _) ?_
        rintro e V1 ⟨rfl, g1⟩
        refine ⟨_, rfl, fun _ => g1, ?_⟩
        simp only [Act.put, List.setIfInBounds_toArray, List.set_cons_zero, List.set_cons_succ]
        refine wpAnyK_one (i := 6) (by kernel_rfl) rfl rfl ?_
        refine wp_call_to (some 37) rfl 44 #[.int .i64 x.kind] (by go_simp) (number_any x.kind _) ?_
        rintro e V2 ⟨rfl, g2⟩
        replace g2 := g1.two g2
        clear g1
        refine ⟨_, rfl, fun _ => g2, ?_⟩
        simp only [Act.put, List.setIfInBounds_toArray, List.set_cons_zero, List.set_cons_succ, Vl.agg, num, txt]
        obtain ⟨a3, c3, V3, hr, hg3⟩ := (HG.out.fr g2).push (colV x) 2 rfl 46 #[.int .i64 2, .int .i64 0, .string x.name, .int .i64 1, .int .i64 x.kind, .string ⟨#[]⟩] rfl (by
          rw [List.length_append, colV_len, HHL.out, List.length_take]; omega)
        obtain ⟨m3, hm3⟩ : ∃ m3, m3 = (H ++ (t.C.take j).flatMap colV).length + 2 := ⟨_, rfl⟩
        rw [← hm3] at hr hg3
        have HG3 : Hid (GV U0 V3 (.slice a3 m3 c3) (H ++ (t.C.take (j + 1)).flatMap colV)) := hide (by
          rw [List.take_add_one, HX.out, List.flatMap_append, ← List.append_assoc]
          simpa using hg3)
        have HS2 := hide (g2.two (Fr.alloc V2 (.cells #[.int .i64 2, .int .i64 0, .string x.name, .int .i64 1, .int .i64 x.kind, .string ⟨#[]⟩] 56) _))
        clear hg3 hm3 g2 k0 k1 HK0 HK1 HG
        refine wpAnyK_one (i := 7) (by kernel_rfl) rfl rfl ?_
        go_simp
        refine ⟨HS2.out, ?_⟩
        refine wpAnyK_one (i := 8) (by kernel_rfl) rfl rfl ?_
        refine wp_append_to (.tmp 31) (.tmp 38) 46 rfl (some 39) rfl 46 rfl (.slice av mv cv) (.slice (some ⟨V2.heap.size, 0, none⟩) 2 2) rfl rfl _ _ hr ⟨fun h => by simp at h, ?_⟩
        simp only [Act.put, List.setIfInBounds_toArray, List.set_cons_zero, List.set_cons_succ]
        clear hr HS2
        refine wpAnyK_one (i := 9) (by kernel_rfl) rfl rfl ?_
        go_simp
        refine wpAnyK_done (by kernel_rfl) ?_ _
        go_wp2
        go_roundw
        case rel => exact ⟨j + 1, by omega, by go_num, HG3.out⟩
        case measure => simp [intOf]; omega
      · have hcj : ¬ ((j : Int) < (t.cn : Int)) := by omega
        have hcjb : decide ((j : Int) < (t.cn : Int)) = false := by simp; omega
        have hg := HG.out
        rw [List.take_of_length_le (by rw [HCN.out]; exact hge)] at hg
        generalize hH2 : H ++ t.C.flatMap colV = H2 at hg
        have HH2 := hide hH2
        have HG2 := hide hg
        have hH2l : H2.length = 4 + t.cn * 2 := by
          rw [← hH2, List.length_append, HHL.out, colV_len, HCN.out]
        have HHL2 := hide hH2l
        obtain ⟨x0, x1, x2, x3, x4⟩ := (HB1.out.fr HG2.out.2.1 (fun h => h)).cells
        clear hg hH2 HG hH2l
        go_wp2_with fail
        go_loopw [4, 44] (fun v ix wr => ∃ j : Nat, j ≤ t.kn ∧ ix = .int .i64 (j : Int) ∧ GV U0 wr v (H2 ++ (t.K.take j).map txt)) (fun _ ix _ => t.kn - (intOf ix).toNat)
        case atStart => exact ⟨0, Nat.zero_le _, rfl, by rw [List.take_zero, List.map_nil, List.append_nil]; exact HG2.out⟩
        case round =>
          rename World => Y
          obtain ⟨i, hi, rfl, hg⟩ := hrel
          obtain ⟨bv, nv, dv, rfl⟩ := ownsRow_shape hg.1
          have HG := hide hg
          clear hg x0 x1 x2 x3 x4 HG2
          rcases Nat.lt_or_ge i t.kn with hlt | hge2
          · obtain ⟨x, hx⟩ : ∃ x, t.K[i]? = some x := ⟨_, List.getElem?_eq_getElem (by rw [HKN.out]; exact hlt)⟩
            obtain ⟨g, off, ha, _, e0⟩ := (HT1.out.keys.fr HG.out.2.1 (fun _ _ h => h)) i x hx
            rw [ha]
            have HX := hide hx
            have HTX := hide (text_any x Y)
            clear hx
            go_wp2_with fail
            refine HTX.out.mono ?_
            rintro e Y1 ⟨rfl, g1⟩
            simp only [Vl.agg, txt]
            obtain ⟨a3, c3, V3, hr, hg3⟩ := (HG.out.fr g1).push [txt x] 1 rfl 46 #[.int .i64 2, .int .i64 0, .string x] rfl (by
              rw [List.length_append, HHL2.out, List.length_map, List.length_take]; omega)
            obtain ⟨m3, hm3⟩ : ∃ m3, m3 = (H2 ++ (t.K.take i).map txt).length + 1 := ⟨_, rfl⟩
            rw [← hm3] at hr hg3
            have HG3 : Hid (GV U0 V3 (.slice a3 m3 c3) (H2 ++ (t.K.take (i + 1)).map txt)) := hide (by
              rw [List.take_add_one, HX.out, List.map_append, ← List.append_assoc]
              simpa using hg3)
            clear hg3 hm3 g1 HG HTX e0
            go_wp2_with (refine wpList_plain rfl fun _ hK => wp_append_to (.tmp 48) (.tmp 51) 46 rfl _ rfl _ rfl (.slice bv nv dv) (.slice (some ⟨Y1.heap.size, 0, none⟩) 1 1) rfl rfl _ _ hr (hK _ _ ?_); clear hK)
            go_roundw
            case rel => exact ⟨i + 1, by omega, by go_num, HG3.out⟩
            case measure => simp [intOf]; omega
          · have hci : ¬ ((i : Int) < (t.kn : Int)) := by omega
            have hcib : decide ((i : Int) < (t.kn : Int)) = false := by simp; omega
            have hg := HG.out
            rw [List.take_of_length_le (by rw [HKN.out]; exact hge2), ← HH2.out, ← HHD.out] at hg
            have HGE := hide hg
            clear hg HG
            go_wp2
            go_ret
            exact ⟨_, rfl, HGE.out.1, HF1.out.two HGE.out.2.1, fun k hk => Nat.le_trans HF1.out.size (HGE.out.2.2 k hk)⟩
end Go.Proofs.Ytdeopneififnnaa
