/- copied: entries in new memory. -/
import Derived.Test.YtcmabldfegcdaaaMg
import Derived.Test.YtcmabldfegcdaaaI
namespace Go.Proofs.Ytcmabldfegcdaaa
open Go.RowKit
set_option maxRecDepth 100000
set_option linter.unusedVariables false
set_option linter.unusedSimpArgs false

def encE' (L : List Er) : List Value := (L.map ecells).flatten
theorem length_encE' (L : List Er) : (encE' L).length = L.length * 6 := by
  induction L with
  | nil => rfl
  | cons x r ih => simp only [encE', List.map_cons, List.flatten_cons, List.length_append, List.length_cons] at *; rw [ih]; simp [ecells]; omega
theorem encE'_append (L M : List Er) : encE' (L ++ M) = encE' L ++ encE' M := by simp [encE']
theorem encE'_get (L : List Er) : ∀ i x, L[i]? = some x → ∀ j, j < 6 → (encE' L)[i * 6 + j]? = (ecells x)[j]? := by
  induction L with
  | nil => intro i x h; simp at h
  | cons y r ih =>
    intro i x h j hj
    have e : encE' (y :: r) = ecells y ++ encE' r := rfl
    rw [e]
    cases i with
    | zero => simp at h; subst h; rw [List.getElem?_append_left (by simp [ecells]; omega)]; simp
    | succ i =>
      simp at h
      rw [List.getElem?_append_right (by simp [ecells]; omega), show (i + 1) * 6 + j - (ecells y).length = i * 6 + j by simp [ecells]; omega]
      exact ih i x h j hj
def OwnE (w : World) (v : Value) (L : List Er) : Prop := w.ownsRow 0 31 6 v L.length (encE' L)
theorem OwnE.nil (w : World) : OwnE w (.slice none 0 0) [] := World.ownsRow_nil w 0 31 6
theorem OwnE.fr {w w' : World} {X : Nat → Prop} {v : Value} {L : List Er} (h : OwnE w v L) (hf : Fr w w' X) (hx : ∀ k, v.ownBlock = some k → ¬ X k) : OwnE w' v L := ownsRow_fr h hf hx
/-- Own entries, as Analyse takes them. -/
theorem OwnE.ents {w : World} {v : Value} {L : List Er} (h : OwnE w v L) : ∃ a c, v = .slice a L.length c ∧ EntsAt w a L := by
  rcases h.2 with ⟨rfl, h0⟩ | ⟨g, cap, cur, rfl, _, hb, hn, hc, hz, ht⟩
  · refine ⟨none, 0, by rw [h0], fun i x hi => ?_⟩
    have := List.length_eq_zero_iff.1 h0
    subst this
    simp at hi
  · refine ⟨_, _, rfl, fun i x hi => ⟨g, rfl, fun j u hu => ?_⟩⟩
    have hj : j < 6 := by have := (List.getElem?_eq_some_iff.1 hu).1; simpa [ecells] using this
    have hlt := (List.getElem?_eq_some_iff.1 hi).1
    have h1 := encE'_get L i x hi j hj
    rw [hu, ← ht] at h1
    rw [cell_of_row _ _ _ _ _ _ hb]
    rw [List.getElem?_take_of_lt (by omega)] at h1
    simpa using h1
theorem full31 : ∃ i, Try.prog.info? 31 = some i ∧ i.zero = some (.agg #[.int .i64 0, .int .i64 0, .int .i64 0, .int .i64 0, .int .i64 0, .slice none 0 0]) ∧ i.size = 6 ∧ i.bytes = 64 := by
  have h0 : (Try.prog.info? 31).isSome = true := by kernel_rfl
  have h1 : (Try.prog.info? 31).bind (·.zero) = some (.agg #[.int .i64 0, .int .i64 0, .int .i64 0, .int .i64 0, .int .i64 0, .slice none 0 0]) := by kernel_rfl
  have h2 : (Try.prog.info? 31).map (·.size) = some 6 := by kernel_rfl
  have h3 : (Try.prog.info? 31).map (·.bytes) = some 64 := by kernel_rfl
  obtain ⟨i, hi⟩ := Option.isSome_iff_exists.1 h0
  rw [hi] at h1 h2 h3
  exact ⟨i, hi, h1, Option.some.inj h2, Option.some.inj h3⟩
theorem wpList_pushE {w : World} {ops : Array Oper} {rest : List Oper} {o : Oper} {act : Act} {Q : Exit → Act → World → Prop} (hgd : o.guard = none) (s x : Operand)
    (ho : o.op = .call { callee := .builtin .append, args := #[s, x], argTypes := #[22, 22] }) (v : Value) (L : List Er) (hs : act.eval s = v) (hown : OwnE w v L) (y : Er)
    (g : Nat) (hx : act.eval x = .slice (some ⟨g, 0, none⟩) 1 1) (hg : w.heap.size = g) (hlen : L.length + 1 ≤ 2199023255552)
    (h : ∀ v' w', OwnE w' v' (L ++ [y]) → Fr w w' (fun k => v.ownBlock = some k) → Fresh w v v' → wpList Try.prog ops Q rest (act.put o.dst v') w') : wpList Try.prog ops Q (o :: rest) act (w.alloc (.cells #[.int .i64 y.1.kind, .int .i64 y.1.txn, .int .i64 y.1.page, .int .i64 y.1.slot, .int .i64 y.1.stamp, .slice y.2.1 y.1.data.length y.2.2] 31)) := by
  subst hg
  obtain ⟨i, hi, hz, hs2, hby⟩ := full31
  have A := Fr.alloc w (.cells #[.int .i64 y.1.kind, .int .i64 y.1.txn, .int .i64 y.1.page, .int .i64 y.1.slot, .int .i64 y.1.stamp, .slice y.2.1 y.1.data.length y.2.2] 31) (fun _ => False)
  obtain ⟨v', w', hr, q1, q2, q3⟩ := run_append_gen (P := Try.prog) (w.alloc (.cells #[.int .i64 y.1.kind, .int .i64 y.1.txn, .int .i64 y.1.page, .int .i64 y.1.slot, .int .i64 y.1.stamp, .slice y.2.1 y.1.data.length y.2.2] 31)) 22 o.type 31 i _ 6 64 Try.underlying22 hi hz hs2 hby rfl (by omega) v L.length (encE' L) (ownsRow_fr hown A (by simp)) ⟨w.heap.size, 0, none⟩ 1 1 (encE' [y]) (by rw [length_encE']; rfl)
    (fun j u hu => by rw [Addr.add_mid, cell_of_row _ _ _ _ _ _ (heap_alloc_new w _), Nat.zero_add]; simpa [encE', ecells] using hu) (by intro u hu; simp [encE', ecells] at hu; rcases hu with rfl | rfl | rfl | rfl | rfl | rfl <;> rfl) (by unfold maxLen; omega) (by omega)
  refine wpList_plain hgd fun _ hK => wp_append_to s x 22 ho _ rfl _ rfl _ _ hs hx _ _ hr (hK _ _ (h v' w' ?_ ?_ ?_))
  · unfold OwnE; rw [List.length_append, encE'_append]; exact q1
  · exact (A.trans (Fr.grown q2)).mono (by rintro k _ (h1 | h1); exact h1.elim; exact h1)
  · rcases q3 with h1 | ⟨k, h1, h2⟩
    · exact .inl h1
    · exact .inr ⟨k, h1, by simp at h2; omega⟩

theorem ownsRow_lt {w : World} {base : Nat} {e : TypeId} {size : Nat} {v : Value} {n : Nat} {xs : List Value} (h : w.ownsRow base e size v n xs) {q : Nat} (hq : v.ownBlock = some q) : q < w.heap.size := by
  rcases h.2 with ⟨rfl, _⟩ | ⟨g, cap, cur, rfl, hb, hgg, rest⟩
  · cases hq
  · obtain rfl : g = q := Option.some.inj hq
    exact (Array.getElem?_eq_some_iff.1 hgg).1
def EntsIn (w : World) (a : Option Addr) (L : List Er) : Prop := ∀ i x, L[i]? = some x → (∃ g off, a = some ⟨g, off, none⟩ ∧ w.rangeAt g (off + i * 6) (ecells x)) ∧ BI w x.2.1 x.1.data.length x.1.data ∧ (x.2.1 = none → x.2.2 = 0) ∧ x.1.data.length ≤ 140737488355328
theorem own_len {w : World} {v : Value} {l : List UInt8} (h : OwnB w v l) : ∃ a c, v = .slice a l.length c := by
  rcases h.2 with ⟨rfl, h0⟩ | ⟨g, cap, cur, rfl, _⟩
  · exact ⟨none, 0, by rw [h0]⟩
  · exact ⟨_, _, rfl⟩

set_option maxHeartbeats 4000000 in
theorem copied_any {w : World} (a : Option Addr) (c n : Nat) (L : List Er) (hln : L.length = n) (hL : EntsIn w a L) (hn : n ≤ 2199023255552) :
    Calls Try.prog 11 #[.slice a n c] w fun e w' => ∃ v L', e = .returned v ∧ OwnE w' v L' ∧ L'.map Prod.fst = L.map Prod.fst ∧ (∀ q, v.ownBlock = some q → w.heap.size ≤ q) ∧ Fr w w' (fun _ => False) := by
  have HL := hide hL
  have HLN := hide hln
  have hem := empty22
  clear hL hln
  go_enter Try.func11, Try.ntmps11
  go_wp2_with fail
  go_loopw [3, 8] (fun v i wr => ∃ (k : Nat) (L' : List Er), k ≤ n ∧ i = .int .i64 (k : Int) ∧ L'.length = k ∧ OwnE wr v L' ∧ L'.map Prod.fst = (L.map Prod.fst).take k ∧ (∀ q, v.ownBlock = some q → w.heap.size ≤ q) ∧ Fr w wr (fun _ => False)) (fun _ i _ => n - (intOf i).toNat)
  case atStart => exact ⟨0, [], Nat.zero_le _, rfl, rfl, OwnE.nil _, rfl, fun q hq => (by cases hq), Fr.refl _ _⟩
  case round =>
    obtain ⟨k, L', hk, rfl, hl', ho, hm, hv, hfr⟩ := hrel
    have HO := hide ho
    have HM := hide hm
    have HV := hide hv
    have HF := hide hfr
    have HLk := hide hl'
    clear ho hm hv hfr hl'
    rcases Nat.lt_or_ge k n with hlt | hge
    · have hlt2 : k < L.length := by have := HLN.out; omega
      obtain ⟨x, hx⟩ : ∃ x, L[k]? = some x := ⟨_, List.getElem?_eq_getElem hlt2⟩
      obtain ⟨⟨g, off, hag, hrow⟩, hbi, hac, hdl⟩ := HL.out k x hx
      have hrow := rangeAt_fr hrow HF.out (fun h => h)
      have HX := hide hx
      obtain ⟨e, ea, ec⟩ := x
      have x0 := hrow 0 _ rfl
      have x1 := hrow 1 _ rfl
      have x2 := hrow 2 _ rfl
      have x3 := hrow 3 _ rfl
      have x4 := hrow 4 _ rfl
      have x5 := hrow 5 _ rfl
      simp only [Nat.add_zero] at x0 x1 x2 x3 x4 x5 hbi hac hdl
      rw [hag]
      have HAC := hide hac
      have HBI := hide (hbi.fr HF.out (fun _ _ _ _ h => h))
      clear hx hrow hlt2 hag hac hbi
      have F1 := Fr.alloc wr (.cells #[.int .i64 e.kind, .int .i64 e.txn, .int .i64 e.page, .int .i64 e.slot, .int .i64 e.stamp, .slice ea e.data.length ec] 31) (fun _ => False)
      have hs1 : (wr.alloc (.cells #[.int .i64 e.kind, .int .i64 e.txn, .int .i64 e.page, .int .i64 e.slot, .int .i64 e.stamp, .slice ea e.data.length ec] 31)).heap.size = wr.heap.size + 1 := by simp
      have F2 := Fr.alloc (wr.alloc (.cells #[.int .i64 e.kind, .int .i64 e.txn, .int .i64 e.page, .int .i64 e.slot, .int .i64 e.stamp, .slice ea e.data.length ec] 31)) (.cells #[] 5) (fun _ => False)
      have F12 := (F1.trans F2).mono (Y := fun _ => False) (by intro k _ h; simp at h)
      have H62 := hide ((six_of (heap_alloc_new wr (.cells #[.int .i64 e.kind, .int .i64 e.txn, .int .i64 e.page, .int .i64 e.slot, .int .i64 e.stamp, .slice ea e.data.length ec] 31))).fr F2 (fun h => h))
      have HE2 := hide (own_empty (wr.alloc (.cells #[.int .i64 e.kind, .int .i64 e.txn, .int .i64 e.page, .int .i64 e.slot, .int .i64 e.stamp, .slice ea e.data.length ec] 31)))
      rw [hs1] at HE2
      have HB2 := hide (HBI.out.fr F12 (fun _ _ _ _ h => h))
      have HF12 := hide F12
      have HLT : Hid (∀ q, u3.ownBlock = some q → q < wr.heap.size) := hide (fun q hq => ownsRow_lt HO.out hq)
      clear F1 F2 F12 hs1 HBI
      go_wp2_with (first | (refine wpList_pushAll rfl (.tmp 12) (.tmp 14) rfl _ _ rfl HE2.out ea e.data.length ec e.data rfl HB2.out HAC.out (by simp; omega) ?_; intro v2 W3 o2 f2 r2; rw [List.nil_append] at o2; obtain ⟨da, dc, hv2⟩ := own_len o2; subst hv2; have HD2 := hide o2; have HF3 := hide ((HF12.out.trans f2).mono (Y := fun _ => False) (by intro k hk h; rcases h with h | h; exact h; (have h1 := Option.some.inj h; simp only [] at h1; omega))); have H63 := hide (H62.out.fr f2 (fun h => by have h1 := Option.some.inj h; simp only [] at h1; omega)); have HO4 := hide ((HO.out.fr HF3.out (fun _ _ h => h)).fr (Fr.setCell W3 ⟨wr.heap.size, 5, none⟩ (.slice da e.data.length dc)) (fun q hq h => by have h1 := HLT.out q hq; have h : q = wr.heap.size := h; omega)); have HF4 := hide (HF.out.trans (HF3.out.past (Fr.setCell W3 ⟨wr.heap.size, 5, none⟩ (.slice da e.data.length dc)) (Nat.le_refl _)) |>.mono (Y := fun _ => False) (by intro k _ h; simp at h)); have y0 := H63.out.c0; have y1 := H63.out.c1; have y2 := H63.out.c2; have y3 := H63.out.c3; have y4 := H63.out.c4; have y5 := H63.out.c5; have z5 := H63.out.z 5; clear o2 f2 r2 x0 x1 x2 x3 x4 x5) | (refine wpList_pushE rfl (.tmp 17) (.tmp 19) rfl _ L' rfl HO4.out (e, da, dc) _ rfl (by simp) (by have := HLk.out; omega) ?_; intro v5 W5 o5 f5 r5; have HO5 := hide o5; have HF5 := hide ((HF4.out.trans f5).mono (Y := fun _ => False) (by intro k hk h; rcases h with h | h; exact h; (have := HV.out k h; omega))); have HV5 := hide (r5.le (B := w.heap.size) (by have := HF4.out.size; exact this) HV.out); clear o5 f5 r5 y0 y1 y2 y3 y4 y5 z5))
      go_roundw
      case rel => exact ⟨k + 1, L' ++ [(e, da, dc)], by omega, by go_num, by rw [List.length_append, HLk.out]; rfl, HO5.out, by rw [List.map_append, HM.out, List.take_add_one, List.getElem?_map, HX.out]; rfl, HV5.out, HF5.out⟩
      case measure => simp [intOf]; omega
    · have e1 : k = n := by omega
      subst e1
      go_wp2
      go_ret
      refine ⟨_, L', rfl, HO.out, ?_, HV.out, HF.out⟩
      rw [HM.out, List.take_of_length_le (by rw [List.length_map, HLN.out]; exact Nat.le_refl _)]
end Go.Proofs.Ytcmabldfegcdaaa
