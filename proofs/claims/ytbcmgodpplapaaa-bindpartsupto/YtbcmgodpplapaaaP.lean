/- The document's Scope; both scopes of tables. -/
import Derived.Test.YtbcmgodpplapaaaO
namespace Go.Proofs.Ytbcmgodpplapaaa
open Go.RowKit
set_option maxRecDepth 100000
set_option linter.unusedVariables false
set_option linter.unusedSimpArgs false

def rcells (t : Tb) : List Value := [.int .i64 t.id, .string t.name, .slice t.ca t.cols.length t.cc, .slice none 0 0, .bool false]
def encRt (L : List Tb) : List Value := (L.map rcells).flatten
theorem length_encRt (L : List Tb) : (encRt L).length = L.length * 5 := by
  induction L with
  | nil => rfl
  | cons x L ih => simp only [encRt, List.map_cons, List.flatten_cons, List.length_append, List.length_cons] at *; simp only [rcells, List.length_cons, List.length_nil]; omega
theorem encRt_append (L M : List Tb) : encRt (L ++ M) = encRt L ++ encRt M := by simp [encRt]
theorem encRt_get (L : List Tb) : ∀ i x, L[i]? = some x → ∀ j, j < 5 → (encRt L)[i * 5 + j]? = (rcells x)[j]? := by
  induction L with
  | nil => intro i x h; simp at h
  | cons y L ih =>
    intro i x h j hj
    cases i with
    | zero =>
      simp only [List.getElem?_cons_zero, Option.some.injEq] at h
      subst h
      show (rcells y ++ encRt L)[0 * 5 + j]? = _
      rw [List.getElem?_append_left (by simp [rcells]; omega)]
      simp
    | succ i =>
      simp only [List.getElem?_cons_succ] at h
      show (rcells y ++ encRt L)[(i + 1) * 5 + j]? = _
      rw [List.getElem?_append_right (by simp [rcells]; omega)]
      rw [show (i + 1) * 5 + j - (rcells y).length = i * 5 + j by simp [rcells]; omega]
      exact ih i x h j hj
def OwnRt (w : World) (v : Value) (L : List Tb) : Prop := w.ownsRow 0 73 5 v L.length (encRt L)
theorem OwnRt.nil (w : World) : OwnRt w (.slice none 0 0) [] := World.ownsRow_nil w 0 73 5
theorem OwnRt.fr {w w' : World} {X : Nat → Prop} {v : Value} {L : List Tb} (h : OwnRt w v L) (hf : Fr w w' X) (hx : ∀ k, v.ownBlock = some k → ¬ X k) : OwnRt w' v L := ownsRow_fr h hf hx
def RtAt (w : World) (a : Option Addr) (L : List Tb) : Prop := ∀ (i : Nat) (t : Tb), L[i]? = some t → ∃ g, a = some ⟨g, 0, none⟩ ∧ w.cell? ⟨g, i * 5 + 1, none⟩ = some (.string t.name) ∧ w.cell? ⟨g, i * 5 + 2, none⟩ = some (.slice t.ca t.cols.length t.cc)
theorem RtAt.fr {w w' : World} {a : Option Addr} {L : List Tb} (h : RtAt w a L) (hf : Fr w w' (fun _ => False)) : RtAt w' a L := by
  intro i x hx
  obtain ⟨g, hg, x1, x2⟩ := h i x hx
  have hb := hf.block g (World.block_lt_of_cell? w _ x1) (fun h => h)
  have e : ∀ o, w'.cell? ⟨g, o, none⟩ = w.cell? ⟨g, o, none⟩ := fun o => World.cell?_of_block (w := w) hb
  exact ⟨g, hg, by rw [e]; exact x1, by rw [e]; exact x2⟩
theorem OwnRt.at {w : World} {a : Option Addr} {c n : Nat} {L : List Tb} (h : OwnRt w (.slice a n c) L) (hn : L.length = n) : RtAt w a L := by
  subst hn
  intro i x hi
  obtain ⟨g, h1, h2⟩ := row_cell h (i := i * 5 + 1) (by rw [encRt_get L i x hi 1 (by omega)]; rfl)
  obtain ⟨g', h3, h4⟩ := row_cell h (i := i * 5 + 2) (by rw [encRt_get L i x hi 2 (by omega)]; rfl)
  rw [h1] at h3
  simp only [Option.some.injEq, Addr.mk.injEq, and_true] at h3
  subst h3
  exact ⟨g, h1, h2, h4⟩
theorem full73 : ∃ i, Try.prog.info? 73 = some i ∧ i.zero = some (.agg #[.int .i64 0, .string ⟨#[]⟩, .slice none 0 0, .slice none 0 0, .bool false]) ∧ i.size = 5 ∧ i.bytes = 80 := by
  have h0 : (Try.prog.info? 73).isSome = true := by kernel_rfl
  have h1 : (Try.prog.info? 73).bind (·.zero) = some (.agg #[.int .i64 0, .string ⟨#[]⟩, .slice none 0 0, .slice none 0 0, .bool false]) := by kernel_rfl
  have h2 : (Try.prog.info? 73).map (·.size) = some 5 := by kernel_rfl
  have h3 : (Try.prog.info? 73).map (·.bytes) = some 80 := by kernel_rfl
  obtain ⟨i, hi⟩ := Option.isSome_iff_exists.1 h0
  rw [hi] at h1 h2 h3
  exact ⟨i, hi, h1, Option.some.inj h2, Option.some.inj h3⟩
theorem wpList_pushRt {w : World} {ops : Array Oper} {rest : List Oper} {o : Oper} {act : Act} {Q : Exit → Act → World → Prop} (hgd : o.guard = none) (s x : Operand)
    (ho : o.op = .call { callee := .builtin .append, args := #[s, x], argTypes := #[72, 72] }) (v : Value) (L : List Tb) (hs : act.eval s = v) (hown : OwnRt w v L) (y : Tb) (m : Nat) (hm : y.cols.length = m)
    (g : Nat) (hx : act.eval x = .slice (some ⟨g, 0, none⟩) 1 1) (hg : w.heap.size = g) (hlen : L.length ≤ 1048576)
    (h : ∀ v' w', OwnRt w' v' (L ++ [y]) → Fr w w' (fun k => v.ownBlock = some k) → Fresh w v v' → wpList Try.prog ops Q rest (act.put o.dst v') w') : wpList Try.prog ops Q (o :: rest) act (w.alloc (.cells #[.int .i64 y.id, .string y.name, .slice y.ca m y.cc, .slice none 0 0, .bool false] 73)) := by
  subst hg hm
  obtain ⟨i, hi, hz, hs2, hby⟩ := full73
  have A := Fr.alloc w (.cells #[.int .i64 y.id, .string y.name, .slice y.ca y.cols.length y.cc, .slice none 0 0, .bool false] 73) (fun _ => False)
  obtain ⟨v', w', hr, q1, q2, q3⟩ := run_append_gen (P := Try.prog) (w.alloc (.cells #[.int .i64 y.id, .string y.name, .slice y.ca y.cols.length y.cc, .slice none 0 0, .bool false] 73)) 72 o.type 73 i _ 5 80 Try.underlying72 hi hz hs2 hby rfl (by omega) v L.length (encRt L) (ownsRow_fr hown A (by simp)) ⟨w.heap.size, 0, none⟩ 1 1 (encRt [y]) (by rw [length_encRt]; rfl)
    (fun j u hu => by rw [Addr.add_mid, cell_of_row _ _ _ _ _ _ (heap_alloc_new w _), Nat.zero_add]; simpa [encRt, rcells] using hu) (by intro u hu; simp [encRt, rcells] at hu; rcases hu with rfl | rfl | rfl | rfl | rfl <;> rfl) (by unfold maxLen; omega) (by omega)
  refine wpList_plain hgd fun _ hK => wp_append_to s x 72 ho _ rfl _ rfl _ _ hs hx _ _ hr (hK _ _ (h v' w' ?_ ?_ ?_))
  · unfold OwnRt; rw [List.length_append, encRt_append]; exact q1
  · exact (A.trans (Fr.grown q2)).mono (by rintro k _ (h1 | h1); exact h1.elim; exact h1)
  · rcases q3 with h1 | ⟨k, h1, h2⟩
    · exact .inl h1
    · exact .inr ⟨k, h1, by simp at h2; omega⟩

set_option maxHeartbeats 8000000 in
theorem rscope_any {w : World} (a : Option Addr) (n c : Nat) (T : List Tb) (hT : RtAt w a T) (hC : ∀ t ∈ T, CksIn w t.ca t.cols) (hn : T.length = n) (hnb : n ≤ 4611686018427387904) (hcb : ∀ t ∈ T, t.cols.length ≤ 4611686018427387904) (hb : (scopeP T T.length).length ≤ 1048576) :
    Calls Try.prog 23 #[.slice a n c] w fun e w' => ∃ v, e = .returned v ∧ OwnCl 33 w' v (scopeP T T.length) ∧ (∀ q, v.ownBlock = some q → w.heap.size ≤ q) ∧ Fr w w' (fun _ => False) := by
  have HT := hide hT
  have HC := hide hC
  have HN := hide hn
  have HB := hide hb
  have HCB := hide hcb
  clear hT hC hn hb hcb
  go_enter Try.func23, Try.ntmps23
  go_wp2_with fail
  go_loopw [3, 4] (fun v i wr => ∃ (k : Nat), k ≤ n ∧ i = .int .i64 (k : Int) ∧ OwnCl 33 wr v (scopeP T k) ∧ (∀ q, v.ownBlock = some q → w.heap.size ≤ q) ∧ Fr w wr (fun _ => False)) (fun _ i _ => n - (intOf i).toNat)
  case atStart => exact ⟨0, Nat.zero_le _, rfl, OwnCl.nil _ _, (fun q hq => by cases hq), Fr.refl _ _⟩
  case round =>
    rename World => W2
    obtain ⟨k, hk, rfl, ho, hv, hf⟩ := hrel
    have HO := hide ho
    have HV := hide hv
    have HF := hide hf
    clear ho hv hf
    rcases Nat.lt_or_ge k n with hlt | hge
    · obtain ⟨t, ht⟩ : ∃ t, T[k]? = some t := ⟨_, List.getElem?_eq_getElem (by rw [HN.out]; exact hlt)⟩
      obtain ⟨g, hag, _, _⟩ := HT.out k t ht
      have HSU := hide (scopeP_succ ht)
      have HLE : Hid ((scopeP T k).length + t.cols.length ≤ 1048576) := hide (by
        have h1 := scopeP_len T (k + 1) (by rw [HN.out]; omega)
        rw [scopeP_succ ht, List.length_append] at h1
        have h2 := HB.out
        have h3 : (colsP t t.cols.length).length = t.cols.length := by unfold colsP; rw [List.length_map, List.take_length]
        omega)
      have HCK := hide (HC.out t (List.mem_of_getElem? ht))
      have hcb := HCB.out t (List.mem_of_getElem? ht)
      obtain ⟨m, hm⟩ : ∃ m, t.cols.length = m := ⟨_, rfl⟩
      have HTE : Hid (∀ V, Fr w V (fun _ => False) → V.cell? ⟨g, k * 5 + 1, none⟩ = some (.string t.name) ∧ V.cell? ⟨g, k * 5 + 2, none⟩ = some (.slice t.ca m t.cc)) := hide (fun V hV => by obtain ⟨g', hg', x1, x2⟩ := HT.out.fr hV k t ht; rw [hag] at hg'; simp only [Option.some.injEq, Addr.mk.injEq, and_true] at hg'; subst hg'; rw [hm] at x2; exact ⟨x1, x2⟩)
      rw [hm] at HSU HLE hcb
      have HM := hide hm
      rw [hag]
      clear ht hag hm
      go_wp2_with fail
      go_loopw [3, 5] (fun v i wr => ∃ (j : Nat), j ≤ m ∧ i = .int .i64 (j : Int) ∧ OwnCl 33 wr v (scopeP T k ++ colsP t j) ∧ (∀ q, v.ownBlock = some q → w.heap.size ≤ q) ∧ Fr w wr (fun _ => False)) (fun _ i _ => m - (intOf i).toNat)
      case atStart => exact ⟨0, Nat.zero_le _, rfl, by have := HO.out; simpa [colsP] using this, HV.out, HF.out⟩
      case round =>
        rename World => W4
        obtain ⟨j, hj, rfl, ho, hv, hf⟩ := hrel
        have HO4 := hide ho
        have HV4 := hide hv
        have HF4 := hide hf
        clear ho hv hf HO HV HF
        obtain ⟨w1, w2⟩ := HTE.out W4 HF4.out
        rcases Nat.lt_or_ge j m with hlt2 | hge2
        · obtain ⟨x, hx⟩ : ∃ x, t.cols[j]? = some x := ⟨_, List.getElem?_eq_getElem (by rw [HM.out]; exact hlt2)⟩
          obtain ⟨g2, off2, hag2, z0, z1⟩ := (HCK.out.fr HF4.out) j x hx
          have HCS := hide (colsP_succ hx)
          obtain ⟨xn, xk⟩ := x
          have z0 : W4.cell? ⟨g2, off2 + j * 2, none⟩ = some (.string xn) := z0
          have z1 : W4.cell? ⟨g2, off2 + j * 2 + 1, none⟩ = some (.int .i64 xk) := z1
          rw [hag2] at w2
          have FB := Fr.alloc W4 (.cells #[.string xn, .int .i64 xk] 29) (fun _ => False)
          have HO5 := hide (HO4.out.fr FB (fun _ _ h => h))
          have HF5 := hide (HF4.out.two FB)
          have HXB : Hid ((W4.alloc (.cells #[.string xn, .int .i64 xk] 29)).rangeAt W4.heap.size 0 [.string xn, .int .i64 xk]) := hide (fun i u hu => by rw [cell_of_row _ _ _ _ _ _ (heap_alloc_new W4 _), Nat.zero_add]; simpa using hu)
          have HVX : Hid (∀ q, u3.ownBlock = some q → q ≠ W4.heap.size) := hide (fun q hq h => by have := ownsRow_lt HO4.out hq; omega)
          have HLL : Hid ((scopeP T k ++ colsP t j).length ≤ 1048576) := hide (by have h1 := HLE.out; rw [List.length_append]; unfold colsP; rw [List.length_map]; have := List.length_take_le j t.cols; omega)
          clear hx FB
          go_wp2_with fail
          clear z0 z1 w1 w2
          generalize W4.alloc (.cells #[.string xn, .int .i64 xk] 29) = W5 at *
          obtain ⟨xb, hxb⟩ : ∃ xb, xb = W4.heap.size := ⟨_, rfl⟩
          rw [← hxb] at HXB HVX
          rw [← hxb]
          clear hxb
          refine wp_region_K (fun _ => true) (fun V : World => V.cell? ⟨g, k * 5 + 1, none⟩ = some (.string t.name) ∧ V.cell? ⟨xb, 0, none⟩ = some (.string xn) ∧ V.cell? ⟨xb, 1, none⟩ = some (.int .i64 xk)) (by kernel_rfl) ?_
          have FD := Fr.drew W5 (fun _ => False)
          have HO6 := hide (HO5.out.fr FD (fun _ _ h => h))
          have HF6 := hide (HF5.out.two FD)
          have HX6 := hide (rangeAt_fr HXB.out FD (fun h => h))
          clear FD HO5 HF5 HXB
          generalize W5.drew = V at *
          have hS : (fun V : World => V.cell? ⟨g, k * 5 + 1, none⟩ = some (.string t.name) ∧ V.cell? ⟨xb, 0, none⟩ = some (.string xn) ∧ V.cell? ⟨xb, 1, none⟩ = some (.int .i64 xk)) V := ⟨(HTE.out V HF6.out).1, HX6.out 0 _ rfl, HX6.out 1 _ rfl⟩
          refine wpAnyK_takeTo 0 (some 31) (u3) [] rfl rfl (by kernel_rfl) (by kernel_rfl) (by kernel_rfl) (by kernel_rfl) (fun _ _ _ h => h) hS (Or.inl ⟨rfl, fun w1 hw1 => by go_simp⟩) ?_
          simp only [Act.put, List.setIfInBounds_toArray, List.set_cons_zero, List.set_cons_succ]
          refine wpAnyK_takeTo 1 (some 32) (.slice (some ⟨g, 0, none⟩) n c) [] rfl rfl (by kernel_rfl) (by kernel_rfl) (by kernel_rfl) (by kernel_rfl) (fun _ _ _ h => h) hS (Or.inl ⟨rfl, fun w1 hw1 => by go_simp⟩) ?_
          simp only [Act.put, List.setIfInBounds_toArray, List.set_cons_zero, List.set_cons_succ]
          refine wpAnyK_takeTo 2 (some 33) (.int .i64 (k : Int)) [] rfl rfl (by kernel_rfl) (by kernel_rfl) (by kernel_rfl) (by kernel_rfl) (fun _ _ _ h => h) hS (Or.inl ⟨rfl, fun w1 hw1 => by go_simp⟩) ?_
          simp only [Act.put, List.setIfInBounds_toArray, List.set_cons_zero, List.set_cons_succ]
          refine wpAnyK_takeTo 3 (some 34) (.pointer (some ⟨g, k * 5, none⟩)) [] rfl rfl (by kernel_rfl) (by kernel_rfl) (by kernel_rfl) (by kernel_rfl) (fun _ _ _ h => h) hS (Or.inl ⟨rfl, fun w1 hw1 => by go_simp; first | done | omega⟩) ?_
          simp only [Act.put, List.setIfInBounds_toArray, List.set_cons_zero, List.set_cons_succ]
          refine wpAnyK_takeTo 4 (some 35) (.pointer (some ⟨g, k * 5 + 1, none⟩)) [] rfl rfl (by kernel_rfl) (by kernel_rfl) (by kernel_rfl) (by kernel_rfl) (fun _ _ _ h => h) hS (Or.inl ⟨rfl, fun w1 hw1 => by go_simp⟩) ?_
          simp only [Act.put, List.setIfInBounds_toArray, List.set_cons_zero, List.set_cons_succ]
          refine wpAnyK_takeTo 5 (some 36) (.string t.name) [] rfl rfl (by kernel_rfl) (by kernel_rfl) (by kernel_rfl) (by kernel_rfl) (fun _ _ _ h => h) hS (Or.inl ⟨rfl, fun w1 hw1 => by obtain ⟨h1, h2, h3⟩ := hw1; go_simp⟩) ?_
          simp only [Act.put, List.setIfInBounds_toArray, List.set_cons_zero, List.set_cons_succ]
          refine wpAnyK_takeTo 6 (some 37) (.pointer (some ⟨xb, 0, none⟩)) [] rfl rfl (by kernel_rfl) (by kernel_rfl) (by kernel_rfl) (by kernel_rfl) (fun _ _ _ h => h) hS (Or.inl ⟨rfl, fun w1 hw1 => by go_simp⟩) ?_
          simp only [Act.put, List.setIfInBounds_toArray, List.set_cons_zero, List.set_cons_succ]
          refine wpAnyK_takeTo 7 (some 38) (.string xn) [] rfl rfl (by kernel_rfl) (by kernel_rfl) (by kernel_rfl) (by kernel_rfl) (fun _ _ _ h => h) hS (Or.inl ⟨rfl, fun w1 hw1 => by obtain ⟨h1, h2, h3⟩ := hw1; go_simp⟩) ?_
          simp only [Act.put, List.setIfInBounds_toArray, List.set_cons_zero, List.set_cons_succ]
          refine wpAnyK_takeTo 8 (some 39) (.pointer (some ⟨xb, 1, none⟩)) [] rfl rfl (by kernel_rfl) (by kernel_rfl) (by kernel_rfl) (by kernel_rfl) (fun _ _ _ h => h) hS (Or.inl ⟨rfl, fun w1 hw1 => by go_simp⟩) ?_
          simp only [Act.put, List.setIfInBounds_toArray, List.set_cons_zero, List.set_cons_succ]
          refine wpAnyK_takeTo 9 (some 40) (.int .i64 xk) [] rfl rfl (by kernel_rfl) (by kernel_rfl) (by kernel_rfl) (by kernel_rfl) (fun _ _ _ h => h) hS (Or.inl ⟨rfl, fun w1 hw1 => by obtain ⟨h1, h2, h3⟩ := hw1; go_simp⟩) ?_
          simp only [Act.put, List.setIfInBounds_toArray, List.set_cons_zero, List.set_cons_succ]
          refine wpAnyK_takeTo 10 (some 41) (.agg #[.string t.name, .string xn, .int .i64 xk]) [] rfl rfl (by kernel_rfl) (by kernel_rfl) (by kernel_rfl) (by kernel_rfl) (fun _ _ _ h => h) hS (Or.inl ⟨rfl, fun w1 hw1 => by go_simp⟩) ?_
          simp only [Act.put, List.setIfInBounds_toArray, List.set_cons_zero, List.set_cons_succ]
          clear hS
          refine wpAnyK_one (i := 11) (by kernel_rfl) rfl rfl ?_
          go_simp
          have FA := Fr.alloc V (.cells #[.string t.name, .string xn, .int .i64 xk] 33) (fun _ => False)
          have HO7 := hide (HO6.out.fr FA (fun _ _ h => h))
          have HF7 := hide (HF6.out.two FA)
          have HX7 := hide (rangeAt_fr HX6.out FA (fun h => h))
          have HG7 : Hid ((V.alloc (.cells #[.string t.name, .string xn, .int .i64 xk] 33)).rangeAt V.heap.size 0 (ccells ⟨t.name, xn, xk⟩)) := hide (fun i u hu => by rw [cell_of_row _ _ _ _ _ _ (heap_alloc_new V _), Nat.zero_add]; simpa [ccells] using hu)
          refine ⟨⟨(HTE.out _ HF7.out).1, HX7.out 0 _ rfl, HX7.out 1 _ rfl⟩, ?_⟩
          clear FA HO6 HF6 HX6
          generalize V.alloc (.cells #[.string t.name, .string xn, .int .i64 xk] 33) = V2 at *
          obtain ⟨gb, hgb⟩ : ∃ gb, gb = V.heap.size := ⟨_, rfl⟩
          rw [← hgb] at HG7
          rw [← hgb]
          clear hgb
          obtain ⟨v', V3, hr, p1, p2, p3⟩ := run_pushRl 25 _ _ HO7.out ⟨t.name, xn, xk⟩ gb HG7.out HLL.out
          refine wpAnyK_one (i := 12) (by kernel_rfl) rfl rfl ?_
          refine wp_append_to (.tmp 31) (.tmp 42) 25 rfl _ rfl _ rfl _ _ rfl rfl _ _ hr ?_
          have HF8 := hide ((HF7.out.trans p2).mono (Y := fun _ => False) (fun q hq h => by rcases h with h | h; exact h; have := HV4.out q h; omega))
          have HX8 := hide (rangeAt_fr HX7.out p2 (fun h => HVX.out xb h rfl))
          have HO8 := hide p1
          have HV8 := hide (p3.le HF7.out.size HV4.out)
          refine ⟨fun _ => ⟨(HTE.out _ HF8.out).1, HX8.out 0 _ rfl, HX8.out 1 _ rfl⟩, ?_⟩
          simp only [Act.put, List.setIfInBounds_toArray, List.set_cons_zero, List.set_cons_succ]
          clear hr p1 p2 p3 HO7 HF7 HX7 HG7
          refine wpAnyK_one (i := 13) (by kernel_rfl) rfl rfl ?_
          go_simp
          refine ⟨⟨(HTE.out _ HF8.out).1, HX8.out 0 _ rfl, HX8.out 1 _ rfl⟩, ?_⟩
          refine wpAnyK_done (by kernel_rfl) ?_ _
          go_wp2
          go_roundw
          case rel => exact ⟨j + 1, by omega, by go_num, by have := HO8.out; rw [List.append_assoc] at this; rw [HCS.out]; exact this, HV8.out, HF8.out⟩
          case measure => simp [intOf]; omega
        · have e1 : m = j := by omega
          subst e1
          go_wp2
          go_roundw
          case rel => exact ⟨k + 1, by omega, by go_num, by rw [HSU.out]; exact HO4.out, HV4.out, HF4.out⟩
          case measure => simp [intOf]; omega
    · have e1 : n = k := by omega
      subst e1
      go_wp2
      go_ret
      exact ⟨_, rfl, by have := HO.out; rw [← HN.out] at this; exact this, HV.out, HF.out⟩

set_option maxHeartbeats 8000000 in
theorem scopes_any {w : World} (a : Option Addr) (n c : Nat) (T : List Tb) (hT : TabsIn w a T) (hn : T.length = n) (hnb : n ≤ 1048576) (hcb : ∀ t ∈ T, t.cols.length ≤ 4611686018427387904) (hb : (scopeP T T.length).length ≤ 1048576) :
    Calls Try.prog 8 #[.slice a n c] w fun e w' => ∃ v v', e = .returned (.tuple #[v, v']) ∧ OwnCl 31 w' v (scopeP T T.length) ∧ OwnCl 33 w' v' (scopeP T T.length) ∧ (∀ q, v.ownBlock = some q → w.heap.size ≤ q) ∧ Fr w w' (fun _ => False) := by
  have HT := hide hT
  have HN := hide hn
  have HB := hide hb
  have HCB := hide hcb
  clear hT hn hb hcb
  go_enter Try.func8, Try.ntmps8
  go_wp2_with fail
  go_loopw [4, 9] (fun v i wr => ∃ (k : Nat), k ≤ n ∧ i = .int .i64 (k : Int) ∧ OwnRt wr v (T.take k) ∧ (∀ q, v.ownBlock = some q → w.heap.size ≤ q) ∧ Fr w wr (fun _ => False)) (fun _ i _ => n - (intOf i).toNat)
  case atStart => exact ⟨0, Nat.zero_le _, rfl, OwnRt.nil _, (fun q hq => by cases hq), Fr.refl _ _⟩
  case round =>
    rename World => W2
    obtain ⟨k, hk, rfl, ho, hv, hf⟩ := hrel
    have HO := hide ho
    have HV := hide hv
    have HF := hide hf
    clear ho hv hf
    rcases Nat.lt_or_ge k n with hlt | hge
    · obtain ⟨t, ht⟩ : ∃ t, T[k]? = some t := ⟨_, List.getElem?_eq_getElem (by rw [HN.out]; exact hlt)⟩
      obtain ⟨⟨g, off, hag, x0, x1, x2, x3, x4⟩, _⟩ := (HT.out.fr HF.out) k t ht
      have HTK : Hid (T.take (k + 1) = T.take k ++ [t]) := hide (by rw [List.take_add_one, ht]; rfl)
      obtain ⟨m, hm⟩ : ∃ m, t.cols.length = m := ⟨_, rfl⟩
      rw [hm] at x2
      have HM := hide hm
      rw [hag]
      have FA := Fr.alloc W2 (.cells #[.int .i64 t.id, .string t.name, .slice t.ca m t.cc, .slice t.ka t.kn t.kc, .bool t.ix] 47) (fun _ => False)
      have HO1 := hide (HO.out.fr FA (fun _ _ h => h))
      have HF1 := hide (HF.out.two FA)
      clear ht hag hm FA
      go_wp2_with (refine wpList_pushRt rfl (.tmp 13) (.tmp 21) rfl u4 (T.take k) rfl HO1.out t m HM.out _ rfl (by simp) (by have := List.length_take_le k T; omega) ?_; intro v' W6 ho hf hr; have HO6 := hide ho; have HV6 := hide (hr.le HF1.out.size HV.out); have HF6 := hide ((HF1.out.trans hf).mono (Y := fun _ => False) (by intro q hq h; rcases h with h | h; exact h; have := HV.out q h; omega)); clear ho hf hr)
      go_roundw
      case rel => exact ⟨k + 1, by omega, by go_num, by rw [HTK.out]; exact HO6.out, HV6.out, HF6.out⟩
      case measure => simp [intOf]; omega
    · have e1 : n = k := by omega
      subst e1
      have HO1 : Hid (OwnRt W2 u4 T) := hide (by have := HO.out; rw [List.take_of_length_le (Nat.le_of_eq HN.out)] at this; exact this)
      obtain ⟨ra, rc, hu⟩ := shape_n HO1.out
      rw [HN.out] at hu
      subst hu
      clear HO
      go_wp2_with fail
      refine (scope_any (w := W2) a n c T (HT.out.fr HF.out) HN.out (by omega) HCB.out HB.out).mono ?_
      rintro e W3 ⟨v3, rfl, o3, u3', f3⟩
      have HO3 := hide o3
      have HR3 := hide (HO1.out.fr f3 (fun _ _ h => h))
      have HF3 := hide (HF.out.two f3)
      have HU3 := hide u3'
      have HSZ := hide HF.out.size
      clear o3 u3' f3 HO1 HF
      go_wp2_with fail
      refine (rscope_any (w := W3) ra n rc T (HR3.out.at HN.out) (fun t ht => by obtain ⟨i, hi⟩ := List.getElem?_of_mem ht; exact ((HT.out.fr HF3.out) i t hi).2) HN.out (by omega) HCB.out HB.out).mono ?_
      rintro e W4 ⟨v4, rfl, o4, u4', f4⟩
      have HO4 := hide o4
      have HO5 := hide (HO3.out.fr f4 (fun _ _ h => h))
      have HF4 := hide (HF3.out.two f4)
      clear o4 u4' f4
      go_wp2
      go_ret2
      exact ⟨_, _, rfl, HO5.out, HO4.out, fun q hq => by have := HU3.out q hq; have := HSZ.out; omega, HF4.out⟩
end Go.Proofs.Ytbcmgodpplapaaa
