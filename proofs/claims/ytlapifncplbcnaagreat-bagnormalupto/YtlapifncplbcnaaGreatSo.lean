/- The library's sorts at rows of the call's own: the comparison may read what the elements point to. -/
import Derived.Test.YtlapifncplbcnaaGreatOw
import Derived.Test.YtlapifncplbcnaaGreatVb
import Derived.Test.YtlapifncplbcnaaGreatLay
namespace Go.Proofs.YtlapifncplbcnaaGreat
open Go.RowKit Go.Sort Go.Shelf
set_option maxRecDepth 100000
set_option linter.unusedVariables false
set_option linter.unusedSimpArgs false

section
variable {α : Type} [Inhabited α] (enc : α → List Value) (k : Nat)
theorem flat_get (L : List α) (hk : ∀ x, (enc x).length = k) (h0 : 0 < k) (t : Nat) (ht : t < L.length * k) : (L.flatMap enc)[t]? = some (flatK enc k L.toArray)[t]! := by
  rw [get_flatK _ _ _ t (by simpa using ht)]
  have hq : t / k < L.length := (Nat.div_lt_iff_lt_mul h0).2 ht
  have key : ∀ (L : List α) (j : Nat) (p : α), L[j]? = some p → ∀ i, i < k → (L.flatMap enc)[j * k + i]? = (enc p)[i]? := by
    intro L
    induction L with
    | nil => intro j p h; simp at h
    | cons x L ih =>
      intro j p h i hi
      have e : (x :: L).flatMap enc = enc x ++ L.flatMap enc := by simp
      cases j with
      | zero =>
        simp at h; subst h
        rw [e, List.getElem?_append_left (by rw [hk]; omega)]
        simp
      | succ j =>
        simp at h
        rw [e, List.getElem?_append_right (by rw [hk, Nat.add_mul, Nat.one_mul]; omega)]
        have : (j + 1) * k + i - (enc x).length = j * k + i := by rw [hk, Nat.add_mul, Nat.one_mul]; omega
        rw [this]
        exact ih j p h i hi
  have hp : L[t / k]? = some L[t / k] := List.getElem?_eq_getElem hq
  have hm : t % k < k := Nat.mod_lt _ h0
  have := key L (t / k) _ hp (t % k) hm
  rw [Nat.mul_comm, Nat.div_add_mod] at this
  rw [this, getElem!_pos L.toArray (t / k) (by simpa using hq)]
  simp only [List.getElem_toArray]
  rw [List.getElem?_eq_getElem (by rw [hk]; exact hm)]
  rw [getElem!_pos (enc L[t / k]) (t % k) (by rw [hk]; exact hm)]
theorem holds_cells {w : World} {g : Nat} {cur : Array Value} {ty : TypeId} {L : List α} (hk : ∀ x, (enc x).length = k) (h0 : 0 < k) (hb : w.heap[g]? = some (.cells cur ty (0, 0))) (ht : cur.toList.take (L.length * k) = L.flatMap enc) : HoldsK enc k w g 0 L.toArray := by
  intro j hj
  have hj' : j < L.length * k := by simpa using hj
  refine ⟨?_, by simp [World.frozen?, hb]⟩
  have h1 := flat_get enc k L hk h0 j hj'
  rw [← ht, List.getElem?_take_of_lt hj'] at h1
  rw [cell_of_row _ _ _ _ _ _ hb, Nat.zero_add, ← Array.getElem?_toList, h1]
  rfl
theorem heap_sortedK {w : World} {g n : Nat} {os : Array Obj} {cur : Array Value} {e : TypeId} {fr : Nat × Nat} (d : Array α) (hb : w.heap[g]? = some (.cells cur e fr)) :
    (sortWorldK enc k w g 0 n d os).heap[g]? = some (.cells (putCells id 0 (flatK enc k d) cur) e fr) := by
  have hg : g < w.heap.size := (Array.getElem?_eq_some_iff.1 hb).1
  unfold sortWorldK putRowK
  rw [heap_grow_old _ _ (by simpa using hg)]
  simp [putRow, mapBlock, Sort.ahead, Array.getElem?_modify, hb, onCells]
theorem fr_sortedK {w : World} {g n : Nat} {os : Array Obj} (d : Array α) : Fr w (sortWorldK enc k w g 0 n d os) (fun k => k = g) := by
  unfold sortWorldK putRowK
  refine ⟨rfl, rfl, rfl, by simp, fun k hk hne => ?_⟩
  rw [heap_grow_old _ _ (by simpa using hk)]
  have : g ≠ k := fun e => hne e.symm
  simp [putRow, mapBlock, Sort.ahead, Array.getElem?_modify, this]
theorem take_sortedK (cur : Array Value) (T : List α) (hk : ∀ x, (enc x).length = k) (h0 : 0 < k) (h : T.length * k ≤ cur.size) : (putCells id 0 (flatK enc k T.toArray) cur).toList.take (T.length * k) = T.flatMap enc := by
  have hl : (T.flatMap enc).length = T.length * k := by
    clear h
    induction T with
    | nil => simp
    | cons x T ih =>
      have e : (x :: T).flatMap enc = enc x ++ T.flatMap enc := by simp
      rw [e, List.length_append, ih, hk, List.length_cons, Nat.add_mul, Nat.one_mul, Nat.add_comm]
  apply List.ext_getElem?
  intro j
  by_cases hj : j < T.length * k
  · rw [List.getElem?_take_of_lt hj, Array.getElem?_toList, flat_get enc k T hk h0 j hj]
    simp [putCells, hj, show j < cur.size by omega]
  · rw [List.getElem?_take_eq_none (by omega), List.getElem?_eq_none (by rw [hl]; omega)]
end
theorem perm_in {α : Type} [Inhabited α] {d d' : Array α} (h : PermIn 0 d.size d d') : d'.size = d.size ∧ d'.toList.Perm d.toList := by
  obtain ⟨hs, -, hp⟩ := h
  refine ⟨hs, ?_⟩
  have e : d'.extract 0 d.size = d' := by rw [← hs]; simp
  rw [e] at hp
  simpa using hp
theorem sorted_in {α : Type} [Inhabited α] {cf : α → α → Int} {d' : Array α} {n : Nat} (hs : d'.size = n) (h : SortedIn (ltOf cf) 0 n d') : d'.toList.Pairwise (fun x y => ¬ cf y x < 0) := by
  rw [List.pairwise_iff_getElem]
  intro i j hi hj hij
  have hi' : i < d'.size := by simpa using hi
  have hj' : j < d'.size := by simpa using hj
  have := h i j (Nat.zero_le _) hij (by omega)
  rw [getElem!_pos d' i hi', getElem!_pos d' j hj'] at this
  simp [ltOf] at this
  simpa using this
/-- An order, as the sort wants it. -/
theorem Good.swo {α : Type} {c : α → α → Int} (h : Good c) : SWO (ltOf c) where
  irrefl x := by
    have := h.neg x x
    simp [ltOf]; omega
  trans x y z h1 h2 := by
    simp [ltOf] at *
    exact h.strict1 x y z h1 (by omega)
  ntrans x y z h1 h2 := by
    simp [ltOf] at *
    have h3 := h.neg x y
    have h4 := h.neg y z
    have h5 := h.neg x z
    have := h.trans z y x (by omega) (by omega)
    omega
theorem Good.sub {α : Type} {c : α → α → Int} (h : Good c) {β : Type} (f : β → α) : Good (fun x y => c (f x) (f y)) := ⟨fun x y => h.range _ _, fun x y => h.neg _ _, fun x y z h1 h2 => h.trans _ _ _ h1 h2⟩
/-- Elements of which something is known. -/
theorem to_sub {α : Type} {p : α → Prop} : ∀ {L : List α}, (∀ x ∈ L, p x) → ∃ S : List {x // p x}, S.map Subtype.val = L
  | [], _ => ⟨[], rfl⟩
  | x :: L, h => by
    obtain ⟨S, hS⟩ := to_sub (L := L) (fun y hy => h y (List.mem_cons_of_mem _ hy))
    exact ⟨⟨x, h x (List.mem_cons_self ..)⟩ :: S, by rw [List.map_cons, hS]⟩
theorem flatMap_sub {α : Type} {p : α → Prop} (enc : α → List Value) (S : List {x // p x}) : S.flatMap (fun x => enc x.1) = (S.map Subtype.val).flatMap enc := by
  rw [List.flatMap_map]

/-- slices.SortFunc at a row of the call's own. -/
theorem sort_own {α : Type} (E : El α) {ρ : Ren} (LY : SlLaysF0.n6 Tryz.prog ρ) (aE : ∀ w, (isAgg (ρ.t 24)).run Tryz.prog w = .ok true w) (zE : ∀ w, (Go.sizeOf (ρ.t 24)).run Tryz.prog w = .ok E.k w)
    (cf : α → α → Int) (hO : Good cf) (g : Nat) (cb : Array Value) (eg : ∀ args w, (callFunc g args).run Tryz.prog w = .ok (.enter g args) w) (v : Value) (S : List α) (w : World) (hv : Own E w v S) (hl : S.length ≤ 2199023255552)
    (p : α → Prop) (hp : ∀ x ∈ S, p x)
    (hcmp : ∀ w1, Fr w w1 (fun k => v.ownBlock = some k) → ∀ x y, p x → p y → Calls Tryz.prog g (#[.agg (E.enc x).toArray, .agg (E.enc y).toArray] ++ cb) w1 fun e w2 => e = .returned (.int .i64 (cf x y)) ∧ Gr w1 w2) :
    Calls Tryz.prog (ρ.f 6) #[v, .func (.func g) #[] cb] w fun e w' => e = .returned (.tuple #[]) ∧ ∃ T : List α, T.Perm S ∧ T.Pairwise (fun x y => ¬ cf y x < 0) ∧ Own E w' v T ∧ Fr w w' (fun k => v.ownBlock = some k) := by
  rcases hv.2 with ⟨h1, h2⟩ | ⟨b, cap, cur, hv', hb0, hg, hle, hmx, hcs, htk⟩
  · have hn : S = [] := List.eq_nil_of_length_eq_zero h2
    subst hn h1
    refine (AnyF.slices_SortFunc_none LY none 0 (.func (.func g) #[] cb) w).mono ?_
    rintro e w' ⟨rfl, rfl⟩
    exact ⟨rfl, [], List.Perm.refl _, List.Pairwise.nil, Own.nil E w', Fr.refl _ _⟩
  · by_cases hS : S = []
    · subst hS
      subst hv'
      refine (AnyF.slices_SortFunc_none LY (some ⟨b, 0, none⟩) cap (.func (.func g) #[] cb) w).mono ?_
      rintro e w' ⟨rfl, rfl⟩
      exact ⟨rfl, [], List.Perm.refl _, List.Pairwise.nil, hv, Fr.refl _ _⟩
    obtain ⟨S', hS'⟩ := to_sub hp
    obtain ⟨x0, hx0⟩ := List.exists_mem_of_ne_nil S hS
    haveI : Inhabited {x // p x} := ⟨⟨x0, hp x0 hx0⟩⟩
    have hlen : S'.length = S.length := by rw [← hS', List.length_map]
    have hlt : b < w.heap.size := (Array.getElem?_eq_some_iff.1 hg).1
    have hH : HoldsK (fun x : {x // p x} => E.enc x.1) E.k w b 0 S'.toArray := holds_cells _ _ (fun x => E.len x.1) E.pos hg (by rw [hlen, htk, flatMap_sub, hS']; rfl)
    have hc := AnyQ.slices_SortFunc LY E.k aE zE (fun x : {x // p x} => E.enc x.1) (fun x => E.len x.1) (fun x => E.one x.1) (fun x y => cf x.1 y.1) (hO.sub Subtype.val).swo g cb b 0 cap S'.toArray w eg
      (fun m os dk hsz x y => (hcmp _ ((fr_sortedK _ _ dk).mono (fun k _ e => by rw [hv', e]; rfl)) x.1 y.1 x.2 y.2)) hH hlt (by simp; omega)
    rw [show S'.toArray.size = S.length by simp [hlen]] at hc
    rw [hv']
    refine hc.mono ?_
    rintro e w' ⟨rfl, d', n, os, hpm, hso, rfl⟩
    have hp' := perm_in (d := S'.toArray) (by rw [show S'.toArray.size = S.length by simp [hlen]]; exact hpm)
    have hl' : d'.toList.length = S.length := by have := hp'.1; simpa [hlen] using this
    have hpm' : (d'.toList.map Subtype.val).Perm S := by
      have := hp'.2.map Subtype.val
      simp only [hS'] at this
      exact this
    refine ⟨rfl, d'.toList.map Subtype.val, hpm', ?_, ?_, (fr_sortedK _ _ d').mono (fun k _ e => by rw [e]; rfl)⟩
    · rw [List.pairwise_map]
      exact sorted_in (by simpa using hl') hso
    · refine ⟨by rw [E.length_encs], .inr ⟨b, cap, _, by rw [List.length_map, hl'], hb0, heap_sortedK _ _ d' hg, by rw [List.length_map]; omega, hmx, by simp [putCells, hcs], ?_⟩⟩
      have h3 := take_sortedK (fun x : {x // p x} => E.enc x.1) E.k cur d'.toList (fun x => E.len x.1) E.pos (by rw [hl', hcs]; exact Nat.mul_le_mul_right _ hle)
      rw [List.length_map]
      rw [flatMap_sub] at h3
      unfold El.encs
      simpa using h3
end Go.Proofs.YtlapifncplbcnaaGreat
