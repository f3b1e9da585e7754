/- Slice: the rows of an instant, in order. -/
import Derived.Test.YtlapifncplbcnaaGreatMj
namespace Go.Proofs.YtlapifncplbcnaaGreat
open Go.RowKit Go.Sort Go.Shelf
set_option maxRecDepth 100000
set_option linter.unusedVariables false
set_option linter.unusedSimpArgs false

theorem sortRow0 : SlLaysF0.n6 Tryz.prog Tryz.sortRow_ren := { Tryz.sortRow with }
section
variable {α : Type} [Inhabited α] (enc : α → Value)
theorem heap_sorted1 {w : World} {g n : Nat} {os : Array Obj} {cur : Array Value} {e : TypeId} {fr : Nat × Nat} (d : Array α) (hb : w.heap[g]? = some (.cells cur e fr)) :
    (sortWorld enc w g 0 n d os).heap[g]? = some (.cells (putCells enc 0 d cur) e fr) := by
  have hg : g < w.heap.size := (Array.getElem?_eq_some_iff.1 hb).1
  unfold sortWorld
  rw [heap_grow_old _ _ (by simpa using hg)]
  simp [putRow, mapBlock, Sort.ahead, Array.getElem?_modify, hb, onCells]
theorem fr_sorted1 {w : World} {g n : Nat} {os : Array Obj} (d : Array α) : Fr w (sortWorld enc w g 0 n d os) (fun k => k = g) := by
  unfold sortWorld
  refine ⟨rfl, rfl, rfl, by simp, fun k hk hne => ?_⟩
  rw [heap_grow_old _ _ (by simpa using hk)]
  have : g ≠ k := fun e => hne e.symm
  simp [putRow, mapBlock, Sort.ahead, Array.getElem?_modify, this]
theorem take_sorted1 (cur : Array Value) (T : List α) (h : T.length ≤ cur.size) : (putCells enc 0 T.toArray cur).toList.take T.length = T.map enc := by
  apply List.ext_getElem?
  intro j
  by_cases hj : j < T.length
  · rw [List.getElem?_take_of_lt hj, Array.getElem?_toList]
    simp [putCells, hj, show j < cur.size by omega]
  · rw [List.getElem?_take_eq_none (by omega), List.getElem?_eq_none (by rw [List.length_map]; omega)]
end
theorem encs_rows : ∀ S : List Rw, elR.encs S = S.map Rw.rv
  | [] => rfl
  | x :: S => by
    have : elR.encs (x :: S) = [x.rv] ++ elR.encs S := by simp [El.encs, elR]
    rw [this, encs_rows S]; rfl
/-- Rows sorted. -/
theorem sortR_any (v : Value) (S : List Rw) (w : World) (P : Nat → Prop) (hv : Own elR w v S) (hl : S.length ≤ 2199023255552) (hr : ∀ x ∈ S, Rok w P x.p x.c x.row) (hP : ∀ k, v.ownBlock = some k → ¬ P k) :
    Calls Tryz.prog 62 #[v, .func (.func 63) #[] #[]] w fun e w' => e = .returned (.tuple #[]) ∧ ∃ T : List Rw, T.Perm S ∧ T.Pairwise (fun x y => 0 ≤ cmpL y.row x.row) ∧ Own elR w' v T ∧ Fr w w' (fun k => v.ownBlock = some k) := by
  have eg : ∀ args w, (callFunc 63 args).run Tryz.prog w = .ok (.enter 63 args) w := enters_of Tryz.func63 (by kernel_rfl) rfl
  rcases hv.2 with ⟨h1, h2⟩ | ⟨b, cap, cur, hv', hb0, hg, hle, hmx, hcs, htk⟩
  · have hn : S = [] := List.eq_nil_of_length_eq_zero h2
    subst hn h1
    refine (AnyF.slices_SortFunc_none sortRow0 none 0 (.func (.func 63) #[] #[]) w).mono ?_
    rintro e w' ⟨rfl, rfl⟩
    exact ⟨rfl, [], List.Perm.refl _, List.Pairwise.nil, Own.nil elR w', Fr.refl _ _⟩
  · by_cases hS : S = []
    · subst hS
      subst hv'
      refine (AnyF.slices_SortFunc_none sortRow0 (some ⟨b, 0, none⟩) cap (.func (.func 63) #[] #[]) w).mono ?_
      rintro e w' ⟨rfl, rfl⟩
      exact ⟨rfl, [], List.Perm.refl _, List.Pairwise.nil, hv, Fr.refl _ _⟩
    obtain ⟨S', hS'⟩ := to_sub hr
    obtain ⟨x0, hx0⟩ := List.exists_mem_of_ne_nil S hS
    haveI : Inhabited {x : Rw // Rok w P x.p x.c x.row} := ⟨⟨x0, hr x0 hx0⟩⟩
    have hlen : S'.length = S.length := by rw [← hS', List.length_map]
    have hlt : b < w.heap.size := (Array.getElem?_eq_some_iff.1 hg).1
    have hmap : S'.map (fun x => x.1.rv) = S.map Rw.rv := by rw [← hS', List.map_map]; rfl
    have henc : elR.encs S = S.map Rw.rv := encs_rows S
    have htk' : cur.toList.take S.length = S.map Rw.rv := by
      have : S.length * elR.k = S.length := Nat.mul_one _
      rw [this, henc] at htk
      exact htk
    have hH : Holds (fun x : {x : Rw // Rok w P x.p x.c x.row} => x.1.rv) w b 0 S'.toArray := by
      intro j hj
      have hj' : j < S'.length := by simpa using hj
      refine ⟨?_, by simp [World.frozen?, hg]⟩
      have h1 : (S'.map (fun x => x.1.rv))[j]? = some (S'[j]).1.rv := by rw [List.getElem?_map, List.getElem?_eq_getElem hj']; rfl
      rw [hmap, ← htk', List.getElem?_take_of_lt (by omega)] at h1
      rw [cell_of_row _ _ _ _ _ _ hg, Nat.zero_add, ← Array.getElem?_toList, h1, getElem!_pos S'.toArray j hj]
      simp
    have hc := Any.slices_SortFunc Tryz.sortRow (fun x : {x : Rw // Rok w P x.p x.c x.row} => x.1.rv) (fun _ => rfl) (fun x y => cmpL x.1.row y.1.row) (good_vals.sub (fun x : {x : Rw // Rok w P x.p x.c x.row} => x.1.row)).swo 63 #[] b 0 cap S'.toArray w eg
      (fun m os dk hsz x y => by
        have hf : Fr w (sortWorld (fun x : {x : Rw // Rok w P x.p x.c x.row} => x.1.rv) w b 0 m dk os) (fun k => v.ownBlock = some k) := (fr_sorted1 _ dk).mono (fun k _ e => by rw [hv', e]; rfl)
        exact cmp_rok (x.2.fr hf (fun k _ h1 h2 => hP k h2 h1)) (y.2.fr hf (fun k _ h1 h2 => hP k h2 h1))) hH hlt (by simp; omega)
    rw [show S'.toArray.size = S.length by simp [hlen]] at hc
    rw [hv']
    refine hc.mono ?_
    rintro e w' ⟨rfl, d', n, os, hpm, hso, rfl⟩
    have hp' := perm_in (d := S'.toArray) (by rw [show S'.toArray.size = S.length by simp [hlen]]; exact hpm)
    have hl' : d'.toList.length = S.length := by have := hp'.1; simpa [hlen] using this
    have hpm' : (d'.toList.map Subtype.val).Perm S := by
      have := hp'.2.map Subtype.val
      simp only [hS'] at this
      exact this
    refine ⟨rfl, d'.toList.map Subtype.val, hpm', ?_, ?_, (fr_sorted1 _ d').mono (fun k _ e => by rw [e]; rfl)⟩
    · rw [List.pairwise_map]
      exact (sorted_in (by simpa using hl') hso).imp (fun h => by omega)
    · refine ⟨by rw [elR.length_encs], .inr ⟨b, cap, _, by rw [List.length_map, hl'], hb0, heap_sorted1 _ d' hg, by rw [List.length_map]; omega, hmx, by simp [putCells, hcs], ?_⟩⟩
      have h3 := take_sorted1 (fun x : {x : Rw // Rok w P x.p x.c x.row} => x.1.rv) cur d'.toList (by rw [hl', hcs]; show S.length ≤ cap * 1; omega)
      have e1 : ∀ L : List {x : Rw // Rok w P x.p x.c x.row}, elR.encs (L.map Subtype.val) = L.map (fun x => x.1.rv) := by
        intro L
        induction L with
        | nil => rfl
        | cons x L ih =>
          have : elR.encs ((x :: L).map Subtype.val) = [x.1.rv] ++ elR.encs (L.map Subtype.val) := by simp [El.encs, elR]
          rw [this, ih]; rfl
      rw [List.length_map, e1, show d'.toList.length * elR.k = d'.toList.length from Nat.mul_one _, ← h3]
/-- The rows of an instant. -/
def rowsAt (L : List Ft) (t : Int) : List (List Val) := (L.filter (fun f => okF f && hasB ⟨f.lo, f.hi⟩ t)).map Ft.row
theorem rowsAt_steps (L : List Ft) (t : Int) : ((stepsL L 1).filter (fun s => hasB ⟨s.lo, s.hi⟩ t)).map St.row = rowsAt L t := by
  unfold stepsL rowsAt
  rw [List.filter_map, List.map_map, List.filter_filter]
  congr 1
  apply List.filter_congr
  intro f _
  simp only [Function.comp, stepF]
  cases okF f <;> simp
set_option maxHeartbeats 8000000 in
theorem slice_any {w : World} {x : Ls} (hx : FIn w x) (t : Int) (hl : x.L.length ≤ 549755813888) :
    Calls Tryz.prog 30 #[.slice x.p x.L.length x.c, .int .i64 t] w fun e w' => ∃ v R, e = .returned v ∧ Own elR w' v R ∧ (R.map Rw.row).Perm (rowsAt x.L t) ∧ R.Pairwise (fun a b => 0 ≤ cmpL b.row a.row) ∧ (∀ r ∈ R, Rok w' (fun k => w.heap.size ≤ k ∧ v.ownBlock ≠ some k) r.p r.c r.row) ∧ (∀ k, v.ownBlock = some k → w.heap.size ≤ k) ∧ Fr w w' (fun _ => False) := by
  have HX := hide hx
  have HS1 := hide (stepsOf_any (c := x.c) 1 hx.row (by omega))
  have HL := hide hl
  clear hx hl
  go_enter Tryz.func30, Tryz.ntmps30
  go_wp2_with (go_at_call 47; refine HS1.out.mono ?_; rintro e w1 ⟨v1, rfl, ho1, hb1, hf1⟩; have HO1 := hide ho1; have HB1 := hide hb1; have HF1 := hide hf1; obtain ⟨a1, c1, hv1, _⟩ := ho1.shape; obtain ⟨m, hm⟩ : ∃ m, m = (stepsL x.L 1).length := ⟨_, rfl⟩; have HM := hide hm; rw [← hm] at hv1; subst hv1; clear ho1 hb1 hf1 hm HS1)
  have hml : m ≤ 549755813888 := by have h1 := stepsL_len x.L 1; have := HL.out; have := HM.out; omega
  go_loopw [5, 11] (fun v i wr => ∃ k : Nat, i = .int .i64 (k : Int) ∧ k ≤ m ∧ (∃ R : List Rw, Own elR wr v R ∧ R.map Rw.row = (((stepsL x.L 1).take k).filter (fun s => hasB ⟨s.lo, s.hi⟩ t)).map St.row ∧ (∀ r ∈ R, Rok wr (fun q => w1.heap.size ≤ q ∧ v.ownBlock ≠ some q) r.p r.c r.row) ∧ R.length ≤ k) ∧ (∀ q, v.ownBlock = some q → w1.heap.size ≤ q) ∧ Fr w1 wr (fun _ => False)) (fun _ i _ => m - (intOf i).toNat)
  case atStart => exact ⟨0, rfl, Nat.zero_le _, ⟨[], Own.nil elR _, rfl, by simp, Nat.le_refl _⟩, (by intro q hq; cases hq), Fr.refl _ _⟩
  case round =>
    rename World => w7
    obtain ⟨k, rfl, hk, ⟨R, ho, hrm, hrr, hrl⟩, hb, hf⟩ := hrel
    have HO := hide ho
    have HRM := hide hrm
    have HRR := hide hrr
    have HRL := hide hrl
    have HB := hide hb
    have HF := hide hf
    clear ho hrm hrr hrl hb hf
    by_cases hlt : k < m
    · obtain ⟨s, hs⟩ : ∃ p, (stepsL x.L 1)[k]? = some p := ⟨_, List.getElem?_eq_getElem (by rw [← HM.out]; exact hlt)⟩
      have HS := hide hs
      have HTK := hide (take_snoc hs)
      obtain ⟨g, off, rfl, _, c0, c1', c2, c3⟩ := rowS_at (HO1.out.fr HF.out (fun _ _ h => h)).row hs
      obtain ⟨w8, h8⟩ : ∃ w8, w8 = w7.alloc (.cells #[.int .i64 s.lo, .int .i64 s.hi, .slice s.p s.row.length s.c, .int .i64 s.n] 79) := ⟨_, rfl⟩
      obtain ⟨gb, hgb⟩ : ∃ gb, gb = w7.heap.size := ⟨_, rfl⟩
      have HT : Hid (Four w8 gb (.int .i64 s.lo) (.int .i64 s.hi) (.slice s.p s.row.length s.c) (.int .i64 s.n)) := hide (by rw [h8, hgb]; exact four_of (heap_alloc_new w7 _))
      have FA : Fr w7 w8 (fun _ => False) := by rw [h8]; exact Fr.alloc _ _ _
      have HFA := hide FA
      have t0 := HT.out.1
      have t1 := HT.out.2.1
      have t2 := HT.out.2.2.1
      have HHAS := hide (has_any ⟨s.lo, s.hi⟩ t w8)
      have HRS := hide (((steps_ok (n := 1) HX.out.ok s (List.mem_of_getElem? hs)).fr HF1.out (fun _ _ _ h => h)).fr HF.out (fun _ _ _ h => h))
      unfold perV at HHAS
      have H8 := hide h8
      have HGB := hide hgb
      clear h8 hgb FA hs
      go_wp2_with fail
      rw [← H8.out, ← HGB.out]
      clear H8 HGB
      refine HHAS.out.mono ?_
      rintro e w9 ⟨rfl, hf9⟩
      have HT9 := hide (HT.out.fr hf9 (fun h => h))
      have HF9 := hide ((HFA.out.trans hf9).mono (Y := fun _ => False) (by simp))
      have u2 := HT9.out.2.2.1
      have HRS9 := hide (HRS.out.fr HF9.out (fun _ _ _ h => h))
      have HO9 := hide (HO.out.fr HF9.out (fun _ _ h => h))
      have HRR9 := hide (show ∀ r ∈ R, Rok w9 (fun q => w1.heap.size ≤ q ∧ u5.ownBlock ≠ some q) r.p r.c r.row from fun r hr => (HRR.out r hr).fr HF9.out (fun _ _ _ h => h))
      have HFW := hide ((HF.out.trans HF9.out).mono (Y := fun _ => False) (by simp))
      clear hf9 t0 t1 t2 c0 c1' c2 c3 HT HFA HHAS HO HRS HRR HT9
      by_cases hh : hasB ⟨s.lo, s.hi⟩ t = true
      · rw [hh]
        have HH := hide hh
        have HOWN := hide (own_any HRS9.out)
        clear hh
        go_wp2_with fail
        refine HOWN.out.mono ?_
        rintro e wa ⟨p', c', rfl, hrk, hfa⟩
        have HRK := hide hrk
        have HFA := hide hfa
        have HOA := hide ((HO9.out.fr hfa (fun _ _ h => h)))
        clear hrk hfa HOWN
        go_wp2_with (refine wpList_push elR rfl (.tmp 19) (.tmp 23) rfl u5 _ rfl HOA.out [⟨p', c', s.row⟩] _ 1 1 rfl rfl (by first | rfl | simp) (by have := HRL.out; simp only [List.length_singleton]; omega) _ rfl ?_; intro v' wb ho hf hr; have HOB := hide ho; have HFB := hide hf; have HRB := hide hr; clear ho hf hr)
        go_roundw
        case rel =>
          have hza : w9.heap.size ≤ wa.heap.size := HFA.out.size
          have hz1 : w1.heap.size ≤ w9.heap.size := HFW.out.size
          refine ⟨k + 1, by go_num, by omega, ⟨R ++ [⟨p', c', s.row⟩], HOB.out, ?_, ?_, by rw [List.length_append, List.length_singleton]; have := HRL.out; omega⟩, HRB.out.le (by omega) HB.out, ((HFW.out.trans HFA.out).trans HFB.out).mono ?_⟩
          · rw [HTK.out, List.filter_append, List.map_append, List.map_append, HRM.out]
            simp [HH.out]
          · intro r hr
            have key : ∀ r : Rw, Rok wa (fun q => w1.heap.size ≤ q ∧ u5.ownBlock ≠ some q) r.p r.c r.row → Rok wb (fun q => w1.heap.size ≤ q ∧ v'.ownBlock ≠ some q) r.p r.c r.row := fun r hr => by
              have k2 : Rok wa (fun q => w1.heap.size ≤ q ∧ u5.ownBlock ≠ some q ∧ v'.ownBlock ≠ some q) r.p r.c r.row := hr.mono (fun q hq hh => ⟨hh.1, hh.2, fun e => by
                rcases HRB.out with h1 | ⟨q', h1, h2⟩
                · exact hh.2 (by rw [← h1]; exact e)
                · rw [h1] at e; injection e with e; omega⟩)
              exact (k2.fr HFB.out (fun q _ hq e => hq.2.1 e)).mono (fun q _ hq => ⟨hq.1, hq.2.2⟩)
            rcases List.mem_append.1 hr with hr | hr
            · exact key r ((HRR9.out r hr).fr HFA.out (fun _ _ _ h => h))
            · rw [List.mem_singleton] at hr
              subst hr
              refine key _ (HRK.out.mono (fun q hq hh => ⟨by omega, fun e => ?_⟩))
              have := HO9.out.lt e
              omega
          · rintro q hq ((h | h) | h)
            · exact h
            · exact h
            · have := HB.out q h; omega
        case measure => simp [intOf]; omega
      · have hh' : hasB ⟨s.lo, s.hi⟩ t = false := by simpa using hh
        rw [hh']
        have HH := hide hh'
        clear hh hh'
        go_wp2
        go_roundw
        case rel =>
          refine ⟨k + 1, by go_num, by omega, ⟨R, HO9.out, ?_, HRR9.out, by have := HRL.out; omega⟩, HB.out, HFW.out⟩
          rw [HTK.out, List.filter_append, List.map_append, HRM.out]
          simp [HH.out]
        case measure => simp [intOf]; omega
    · obtain rfl : k = m := by omega
      have HRP := hide (show R.map Rw.row = rowsAt x.L t by rw [HRM.out, HM.out, List.take_length, rowsAt_steps])
      have HSORT := hide (sortR_any u5 R w7 (fun q => w1.heap.size ≤ q ∧ u5.ownBlock ≠ some q) HO.out (by have := HRL.out; omega) HRR.out (fun q hq h => h.2 hq))
      go_wp2_with (go_at_call 62; refine HSORT.out.mono ?_; rintro e w9 ⟨rfl, T, hp, hs, ho, hf⟩; have HP := hide hp; have HS := hide hs; have HO9 := hide ho; have HF9 := hide hf; clear hp hs ho hf)
      go_ret
      have hz := HF1.out.size
      refine ⟨_, T, rfl, HO9.out, by rw [← HRP.out]; exact HP.out.map _, HS.out, fun r hr => ((HRR.out r (HP.out.mem_iff.1 hr)).fr HF9.out (fun q _ hq e => hq.2 e)).mono (fun q _ hq => ⟨by have := hq.1; omega, hq.2⟩), fun q hq => by have := HB.out q hq; omega, ((HF1.out.trans HF.out).trans HF9.out).mono ?_⟩
      rintro q hq ((h | h) | h)
      · exact h
      · exact h
      · have := HB.out q h; omega
end Go.Proofs.YtlapifncplbcnaaGreat
