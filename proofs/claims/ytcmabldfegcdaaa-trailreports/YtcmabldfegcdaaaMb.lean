/- Rows of numbers and of touched pages of the call's own; the library's sorts of them. -/
import Derived.Test.YtcmabldfegcdaaaMa
import Derived.Test.YtcmabldfegcdaaaLay
import Derived.Shelf.SlSortCmp.WholeK
import Derived.Shelf.SlicesG.Cmp
import Derived.Sort.OwnSortedInts
import Derived.Shelf.SlSortCmp.NoneTotal
import Derived.Shelf.SortG.Plain
import Derived.Shelf.SortG.SortNone
namespace Go.Proofs.Ytcmabldfegcdaaa
open Go.Shelf Go.RowKit Go.Lib Go.Sort
set_option maxRecDepth 100000
set_option linter.unusedVariables false

/-- A row of numbers of the call's own. -/
def OwnI (w : World) (v : Value) (L : List Int) : Prop := w.ownsRow 0 2 1 v L.length (L.map (Value.int .i64))
theorem OwnI.nil (w : World) : OwnI w (.slice none 0 0) [] := World.ownsRow_nil w 0 2 1
theorem OwnI.fr {w w' : World} {X : Nat → Prop} {v : Value} {L : List Int} (h : OwnI w v L) (hf : Fr w w' X) (hx : ∀ k, v.ownBlock = some k → ¬ X k) : OwnI w' v L := ownsRow_fr h hf hx
theorem OwnI.shape {w : World} {v : Value} {L : List Int} (h : OwnI w v L) : ∃ a c, v = .slice a L.length c ∧ L.length ≤ c := by
  rcases h.2 with ⟨h1, h2⟩ | ⟨g, cap, cur, hv, _, _, hle, _⟩
  · exact ⟨none, 0, by rw [h1, h2], by omega⟩
  · exact ⟨_, cap, hv, hle⟩
theorem OwnI.at {w : World} {a : Option Addr} {n c : Nat} {L : List Int} (h : OwnI w (.slice a n c) L) (j : Nat) (s : Int) (hs : L[j]? = some s) : ∃ g, a = some ⟨g, 0, none⟩ ∧ w.cell? ⟨g, j, none⟩ = some (.int .i64 s) := by
  rcases h.2 with ⟨h1, h2⟩ | ⟨g, cap, cur, hv, _, hg, hle, _, hcs, htk⟩
  · have : L = [] := List.eq_nil_of_length_eq_zero h2
    subst this
    simp at hs
  · simp only [Value.slice.injEq] at hv
    obtain ⟨rfl, rfl, rfl⟩ := hv
    refine ⟨g, rfl, ?_⟩
    rw [cell_of_row _ _ _ _ _ _ hg, ← Array.getElem?_toList]
    have h3 : (L.map (Value.int .i64))[j]? = some (.int .i64 s) := by simp [hs]
    rw [← htk, List.getElem?_take] at h3
    split at h3
    · exact h3
    · cases h3
theorem full2 : ∃ i, Try.prog.info? 2 = some i ∧ i.zero = some (.int .i64 0) ∧ i.size = 1 ∧ i.bytes = 8 := by
  have h0 : (Try.prog.info? 2).isSome = true := by kernel_rfl
  have h1 : (Try.prog.info? 2).bind (·.zero) = some (.int .i64 0) := by kernel_rfl
  have h2 : (Try.prog.info? 2).map (·.size) = some 1 := by kernel_rfl
  have h3 : (Try.prog.info? 2).map (·.bytes) = some 8 := by kernel_rfl
  obtain ⟨i, hi⟩ := Option.isSome_iff_exists.1 h0
  rw [hi] at h1 h2 h3
  exact ⟨i, hi, h1, Option.some.inj h2, Option.some.inj h3⟩
/-- Numbers that were just laid go behind a row of the call's own. -/
theorem wpList_pushI {w : World} {ops : Array Oper} {rest : List Oper} {o : Oper} {act : Act} {Q : Exit → Act → World → Prop} (hgd : o.guard = none) (s x : Operand)
    (ho : o.op = .call { callee := .builtin .append, args := #[s, x], argTypes := #[23, 23] }) (v : Value) (L : List Int) (hs : act.eval s = v) (hown : OwnI w v L)
    (M : List Int) (g n c : Nat) (hn : M.length = n) (hx : act.eval x = .slice (some ⟨g, 0, none⟩) n c) (hg : w.heap.size = g) (hlen : L.length + M.length ≤ 17592186044416) (cs : Array Value) (hcs : cs = (M.map (Value.int .i64)).toArray)
    (h : ∀ v' w', OwnI w' v' (L ++ M) → Fr w w' (fun k => v.ownBlock = some k) → Fresh w v v' → wpList Try.prog ops Q rest (act.put o.dst v') w') : wpList Try.prog ops Q (o :: rest) act (w.alloc (.cells cs 2)) := by
  subst hg hcs hn
  obtain ⟨i, hi, hz, hs2, hby⟩ := full2
  have A := Fr.alloc w (.cells (M.map (Value.int .i64)).toArray 2) (fun _ => False)
  obtain ⟨v', w', hr, q1, q2, q3⟩ := run_append_gen (P := Try.prog) (w.alloc (.cells (M.map (Value.int .i64)).toArray 2)) 23 o.type 2 i _ 1 8 Try.underlying23 hi hz hs2 hby rfl (by omega) v L.length (L.map (Value.int .i64)) (ownsRow_fr hown A (by simp)) ⟨w.heap.size, 0, none⟩ M.length c (M.map (Value.int .i64)) (by simp)
    (fun j u hu => by rw [Addr.add_mid, cell_of_row _ _ _ _ _ _ (heap_alloc_new w _), Nat.zero_add, List.getElem?_toArray]; exact hu) (by intro u hu; simp at hu; obtain ⟨z, _, rfl⟩ := hu; rfl) (by unfold maxLen; omega) (by omega)
  refine wpList_plain hgd fun _ hK => wp_append_to s x 23 ho _ rfl _ rfl _ _ hs hx _ _ hr (hK _ _ (h v' w' ?_ ?_ ?_))
  · unfold OwnI; rw [List.length_append, List.map_append]; exact q1
  · exact (A.trans (Fr.grown q2)).mono (by rintro k _ (h1 | h1); exact h1.elim; exact h1)
  · rcases q3 with h1 | ⟨k, h1, h2⟩
    · exact .inl h1
    · exact .inr ⟨k, h1, by simp at h2; omega⟩

/-- slices.Sort at a row of the call's own. -/
theorem sortI_any (v : Value) (L : List Int) (w : World) (hv : OwnI w v L) (hL : L.length ≤ 17592186044416) :
    Calls Try.prog 25 #[v] w fun e w' => e = .returned (.tuple #[]) ∧ OwnI w' v (L.mergeSort fun x y => decide (x ≤ y)) ∧ Fr w w' (fun k => v.ownBlock = some k) := by
  rcases hv.2 with ⟨h1, h2⟩ | ⟨g, cap, cur, hvv, hb0, hg, hle, hmx, hcs, htk⟩
  · have hn : L = [] := List.eq_nil_of_length_eq_zero h2
    subst hn h1
    refine (AnyG.slices_Sort_int_none Try.sort64 none 0 w).mono ?_
    rintro e w' ⟨rfl, rfl⟩
    exact ⟨rfl, by simpa using OwnI.nil w', Fr.refl _ _⟩
  · subst hvv
    rw [Nat.mul_one] at htk
    refine (AnyG.slices_Sort_int Try.sort64 g 0 cap L w (holds_of_blockI hg htk) (Array.getElem?_eq_some_iff.1 hg).1 (by omega)).mono ?_
    rintro e w' ⟨rfl, n, os, rfl⟩
    have hl : (L.mergeSort fun x y => decide (x ≤ y)).length = L.length := by simp
    refine ⟨rfl, ?_, (Fr.grown (grownBy_sortedI _)).mono (fun k _ h => h)⟩
    unfold OwnI
    rw [hl]
    exact ownsRow_sortedI hl hb0 hg hle hmx hcs

/-- A touched page. -/
structure Tch where
  page : Int
  first : Int
  last : Int
def tcells (x : Tch) : List Value := [.int .i64 x.page, .int .i64 x.first, .int .i64 x.last]
def encT (L : List Tch) : List Value := (L.map tcells).flatten
theorem length_encT (L : List Tch) : (encT L).length = L.length * 3 := by
  induction L with
  | nil => rfl
  | cons x r ih => simp only [encT, List.map_cons, List.flatten_cons, List.length_append, List.length_cons] at *; rw [ih]; simp [tcells]; omega
theorem encT_append (L M : List Tch) : encT (L ++ M) = encT L ++ encT M := by simp [encT]
theorem encT_get (L : List Tch) : ∀ i x, L[i]? = some x → ∀ j, j < 3 → (encT L)[i * 3 + j]? = (tcells x)[j]? := by
  induction L with
  | nil => intro i x h; simp at h
  | cons y r ih =>
    intro i x h j hj
    have e : encT (y :: r) = tcells y ++ encT r := rfl
    rw [e]
    cases i with
    | zero => simp at h; subst h; rw [List.getElem?_append_left (by simp [tcells]; omega)]; simp
    | succ i =>
      simp at h
      rw [List.getElem?_append_right (by simp [tcells]; omega), show (i + 1) * 3 + j - (tcells y).length = i * 3 + j by simp [tcells]; omega]
      exact ih i x h j hj
def OwnT (w : World) (v : Value) (L : List Tch) : Prop := w.ownsRow 0 70 3 v L.length (encT L)
theorem OwnT.nil (w : World) : OwnT w (.slice none 0 0) [] := World.ownsRow_nil w 0 70 3
theorem full70 : ∃ i, Try.prog.info? 70 = some i ∧ i.zero = some (.agg #[.int .i64 0, .int .i64 0, .int .i64 0]) ∧ i.size = 3 ∧ i.bytes = 24 := by
  have h0 : (Try.prog.info? 70).isSome = true := by kernel_rfl
  have h1 : (Try.prog.info? 70).bind (·.zero) = some (.agg #[.int .i64 0, .int .i64 0, .int .i64 0]) := by kernel_rfl
  have h2 : (Try.prog.info? 70).map (·.size) = some 3 := by kernel_rfl
  have h3 : (Try.prog.info? 70).map (·.bytes) = some 24 := by kernel_rfl
  obtain ⟨i, hi⟩ := Option.isSome_iff_exists.1 h0
  rw [hi] at h1 h2 h3
  exact ⟨i, hi, h1, Option.some.inj h2, Option.some.inj h3⟩
theorem wpList_pushT {w : World} {ops : Array Oper} {rest : List Oper} {o : Oper} {act : Act} {Q : Exit → Act → World → Prop} (hgd : o.guard = none) (s x : Operand)
    (ho : o.op = .call { callee := .builtin .append, args := #[s, x], argTypes := #[25, 25] }) (v : Value) (L : List Tch) (hs : act.eval s = v) (hown : OwnT w v L) (y : Tch)
    (g : Nat) (hx : act.eval x = .slice (some ⟨g, 0, none⟩) 1 1) (hg : w.heap.size = g) (hlen : L.length ≤ 5864062014804)
    (h : ∀ v' w', OwnT w' v' (L ++ [y]) → Fr w w' (fun k => v.ownBlock = some k) → Fresh w v v' → wpList Try.prog ops Q rest (act.put o.dst v') w') : wpList Try.prog ops Q (o :: rest) act (w.alloc (.cells #[.int .i64 y.page, .int .i64 y.first, .int .i64 y.last] 70)) := by
  subst hg
  obtain ⟨i, hi, hz, hs2, hby⟩ := full70
  have A := Fr.alloc w (.cells #[.int .i64 y.page, .int .i64 y.first, .int .i64 y.last] 70) (fun _ => False)
  obtain ⟨v', w', hr, q1, q2, q3⟩ := run_append_gen (P := Try.prog) (w.alloc (.cells #[.int .i64 y.page, .int .i64 y.first, .int .i64 y.last] 70)) 25 o.type 70 i _ 3 24 Try.underlying25 hi hz hs2 hby rfl (by omega) v L.length (encT L) (ownsRow_fr hown A (by simp)) ⟨w.heap.size, 0, none⟩ 1 1 (encT [y]) (by rw [length_encT]; rfl)
    (fun j u hu => by rw [Addr.add_mid, cell_of_row _ _ _ _ _ _ (heap_alloc_new w _), Nat.zero_add]; simpa [encT, tcells] using hu) (by intro u hu; simp [encT, tcells] at hu; rcases hu with rfl | rfl | rfl <;> rfl) (by unfold maxLen; omega) (by omega)
  refine wpList_plain hgd fun _ hK => wp_append_to s x 25 ho _ rfl _ rfl _ _ hs hx _ _ hr (hK _ _ (h v' w' ?_ ?_ ?_))
  · unfold OwnT; rw [List.length_append, encT_append]; exact q1
  · exact (A.trans (Fr.grown q2)).mono (by rintro k _ (h1 | h1); exact h1.elim; exact h1)
  · rcases q3 with h1 | ⟨k, h1, h2⟩
    · exact .inl h1
    · exact .inr ⟨k, h1, by simp at h2; omega⟩


instance : Inhabited Tch := ⟨⟨0, 0, 0⟩⟩
def encK (x : Tch) : List Value := [.int .i64 x.page, .int .i64 x.first, .int .i64 x.last]

theorem isNaN38 (x : Int) (w : World) : Calls Try.prog 38 #[.int .i64 x] w fun e w' => e = .returned (.bool false) ∧ w' = w := by
  go_enter Try.func38, Try.ntmps38
  go_wp2
  go_ret
  exact ⟨rfl, rfl⟩
theorem compare28 (x y : Int) (w : World) : Calls Try.prog 28 #[.int .i64 x, .int .i64 y] w fun e w' => e = .returned (.int .i64 (Lib.compareInt x y)) ∧ w' = w := by
  have HN := hide (fun z W => isNaN38 z W)
  have h1 : x < y → Lib.compareInt x y = -1 := fun h => by unfold Lib.compareInt; simp [h]
  have h2 : ¬ x < y → y < x → Lib.compareInt x y = 1 := fun h g => by unfold Lib.compareInt; simp [h, g]
  have h3 : ¬ x < y → ¬ y < x → Lib.compareInt x y = 0 := fun h g => by unfold Lib.compareInt; simp [h, g]
  generalize Lib.compareInt x y = r at *
  by_cases hlt : x < y
  · obtain rfl := h1 hlt
    clear h1 h2 h3
    go_enter Try.func28, Try.ntmps28
    go_wp2_with (go_at_call 38; refine (HN.out _ _).mono ?_; rintro e w' ⟨rfl, hV⟩; obtain rfl := hV.symm; clear hV)
    go_ret
    exact ⟨rfl, rfl⟩
  · by_cases hgt : y < x
    · obtain rfl := h2 hlt hgt
      clear h1 h2 h3
      go_enter Try.func28, Try.ntmps28
      go_wp2_with (go_at_call 38; refine (HN.out _ _).mono ?_; rintro e w' ⟨rfl, hV⟩; obtain rfl := hV.symm; clear hV)
      go_ret
      exact ⟨rfl, rfl⟩
    · obtain rfl := h3 hlt hgt
      clear h1 h2 h3
      go_enter Try.func28, Try.ntmps28
      go_wp2_with (go_at_call 38; refine (HN.out _ _).mono ?_; rintro e w' ⟨rfl, hV⟩; obtain rfl := hV.symm; clear hV)
      go_ret
      exact ⟨rfl, rfl⟩
set_option maxHeartbeats 1000000 in
theorem closure27 (x y : Tch) (W : World) : Calls Try.prog 27 #[.agg #[.int .i64 x.page, .int .i64 x.first, .int .i64 x.last], .agg #[.int .i64 y.page, .int .i64 y.first, .int .i64 y.last]] W fun e w' => e = .returned (.int .i64 (Lib.compareInt x.page y.page)) ∧ ∃ q os', w' = grow (W.drewN q) os' := by
  have hcon := fun W' => compare28 x.page y.page W'
  generalize Lib.compareInt x.page y.page = r at hcon ⊢
  go_enter Try.func27, Try.ntmps27
  go_wp2_with (go_at_call 28; refine (hcon _).mono ?_; rintro e w' ⟨rfl, rfl⟩)
  go_ret
  exact ⟨rfl, 0, _, by rw [alloc_eq_grow, alloc_eq_grow, grow_grow]; rfl⟩

theorem cmpLays27 (blk off size : Nat) (w : World) : CmpLays Try.prog 27 #[] encK 3 (fun x y => Lib.compareInt x.page y.page) blk off size w :=
  fun _ _ _ _ x y => closure27 x y _

theorem ltLo (x y : Tch) : ltOf (fun x y : Tch => Lib.compareInt x.page y.page) x y = decide (x.page < y.page) := by
  unfold ltOf Lib.compareInt
  by_cases h1 : x.page < y.page
  · simp [h1]
  · by_cases h2 : y.page < x.page <;> simp [h1, h2]

theorem swoLo : SWO (ltOf fun x y : Tch => Lib.compareInt x.page y.page) where
  irrefl x := by rw [ltLo]; simp
  trans x y z h1 h2 := by rw [ltLo] at *; simp at *; omega
  ntrans x y z h1 h2 := by rw [ltLo] at *; simp at *; omega

theorem sortFunc_any (blk off cap : Nat) (d : Array Tch) (w : World) (hH : HoldsK encK 3 w blk off d) (hblk : blk < w.heap.size) (hsz : d.size < 4611686018427387904) :
    Calls Try.prog 26 #[.slice (some ⟨blk, off, none⟩) d.size cap, .func (.func 27) #[] #[]] w fun e w' => e = .returned (.tuple #[]) ∧ ∃ d' n os, PermIn 0 d.size d d' ∧ SortedIn (ltOf fun x y : Tch => Lib.compareInt x.page y.page) 0 d.size d' ∧ w' = sortWorldK encK 3 w blk off n d' os := by
  have eg : ∀ args w, (callFunc 27 args).run Try.prog w = .ok (.enter 27 args) w := enters_of Try.func27 (by kernel_rfl) rfl
  have hcon := AnyQ.slices_SortFunc Try.sortTch 3 Try.isAgg70 Try.sizeOf70 encK (fun _ => rfl) (fun x v hv => by simp [encK] at hv; rcases hv with rfl | rfl | rfl <;> rfl) (fun x y => Lib.compareInt x.page y.page) swoLo 27 #[] blk off cap d w eg (cmpLays27 blk off d.size w) hH hblk hsz
  exact hcon

theorem perm_lists {d d' : Array Tch} (h : PermIn 0 d.size d d') : d'.size = d.size ∧ d'.toList.Perm d.toList := by
  obtain ⟨hs, -, hp⟩ := h
  refine ⟨hs, ?_⟩
  have e : d'.extract 0 d.size = d' := by rw [← hs]; simp
  rw [e] at hp
  simpa using hp

theorem sorted_lists {d' : Array Tch} {n : Nat} (hs : d'.size = n) (h : SortedIn (ltOf fun x y : Tch => Lib.compareInt x.page y.page) 0 n d') : d'.toList.Pairwise (fun x y => x.page ≤ y.page) := by
  rw [List.pairwise_iff_getElem]
  intro i j hi hj hij
  have hi' : i < d'.size := by simpa using hi
  have hj' : j < d'.size := by simpa using hj
  have := h i j (Nat.zero_le _) hij (by omega)
  rw [ltLo, getElem!_pos d' i hi', getElem!_pos d' j hj'] at this
  simp at this
  simpa using this

/-- A list's cells, flat, are those that a row of periods holds. -/
theorem flatK_enc (L : List Tch) (t : Nat) (ht : t < L.length * 3) : (encT L)[t]? = some (flatK encK 3 L.toArray)[t]! := by
  rw [get_flatK _ _ _ t (by simpa using ht)]
  have hq : t / 3 < L.length := by omega
  have hp : L[t / 3]? = some L[t / 3] := List.getElem?_eq_getElem hq
  have := encT_get L (t / 3) _ hp (t % 3) (Nat.mod_lt _ (by omega))
  rw [show t / 3 * 3 + t % 3 = t by omega] at this
  rw [this, getElem!_pos L.toArray (t / 3) (by simpa using hq)]
  simp only [List.getElem_toArray]
  have h3 : t % 3 = 0 ∨ t % 3 = 1 ∨ t % 3 = 2 := by omega
  rcases h3 with h | h | h <;> rw [h] <;> rfl

theorem holds_own {w : World} {g : Nat} {cur : Array Value} {L : List Tch} (hb : w.heap[g]? = some (.cells cur 70 (0, 0))) (ht : cur.toList.take (L.length * 3) = encT L) : HoldsK encK 3 w g 0 L.toArray := by
  intro j hj
  have hj' : j < L.length * 3 := by simpa using hj
  refine ⟨?_, by simp [World.frozen?, hb]⟩
  have h1 := flatK_enc L j hj'
  rw [← ht, List.getElem?_take_of_lt hj'] at h1
  rw [cell_of_row _ _ _ _ _ _ hb, Nat.zero_add, ← Array.getElem?_toList, h1]
  rfl

theorem heap_sortedK {w : World} {g n : Nat} {os : Array Obj} {cur : Array Value} {e : TypeId} {fr : Nat × Nat} (d : Array Tch) (hb : w.heap[g]? = some (.cells cur e fr)) :
    (sortWorldK encK 3 w g 0 n d os).heap[g]? = some (.cells (putCells id 0 (flatK encK 3 d) cur) e fr) := by
  have hg : g < w.heap.size := (Array.getElem?_eq_some_iff.1 hb).1
  unfold sortWorldK putRowK
  rw [heap_grow_old _ _ (by simpa using hg)]
  simp [putRow, mapBlock, Sort.ahead, Array.getElem?_modify, hb, onCells]

theorem fr_sortedK {w : World} {g n : Nat} {os : Array Obj} (d : Array Tch) : Fr w (sortWorldK encK 3 w g 0 n d os) (fun k => k = g) := by
  unfold sortWorldK putRowK
  refine ⟨rfl, rfl, rfl, by simp, fun k hk hne => ?_⟩
  rw [heap_grow_old _ _ (by simpa using hk)]
  have : g ≠ k := fun e => hne e.symm
  simp [putRow, mapBlock, Sort.ahead, Array.getElem?_modify, this]

theorem take_putCellsK (cur : Array Value) (T : List Tch) (h : T.length * 3 ≤ cur.size) : (putCells id 0 (flatK encK 3 T.toArray) cur).toList.take (T.length * 3) = encT T := by
  apply List.ext_getElem?
  intro j
  by_cases hj : j < T.length * 3
  · rw [List.getElem?_take_of_lt hj, Array.getElem?_toList, flatK_enc T j hj]
    simp [putCells, hj, show j < cur.size by omega]
  · rw [List.getElem?_take_eq_none (by omega), List.getElem?_eq_none (by rw [length_encT]; omega)]

/-- SortFunc by where they begin, at a row of one's own. -/
theorem sortOwn_any (v : Value) (L : List Tch) (w : World) (hv : OwnT w v L) (g cap : Nat) (hs : v = .slice (some ⟨g, 0, none⟩) L.length cap) (hL : L.length ≤ 8796093022000) :
    Calls Try.prog 26 #[v, .func (.func 27) #[] #[]] w fun e w' => e = .returned (.tuple #[]) ∧ ∃ T : List Tch, T.Perm L ∧ T.Pairwise (fun x y => x.page ≤ y.page) ∧ OwnT w' v T ∧ Fr w w' (fun k => k = g) := by
  rcases hv.2 with ⟨h1, h2⟩ | ⟨g', cap', cur, hv', hb0, hg, hle, hmx, hcs, htk⟩
  · rw [hs] at h1; simp at h1
  rw [hs] at hv'
  simp only [Value.slice.injEq, Option.some.injEq, Addr.mk.injEq, and_true, true_and] at hv'
  obtain ⟨rfl, rfl⟩ := hv'
  subst hs
  have hlt : g < w.heap.size := (Array.getElem?_eq_some_iff.1 hg).1
  have hc := sortFunc_any g 0 cap L.toArray w (holds_own hg htk) hlt (by simp; omega)
  rw [show L.toArray.size = L.length by simp] at hc
  refine hc.mono ?_
  rintro e w' ⟨rfl, d', n, os, hp, hso, rfl⟩
  have hp' := perm_lists (d := L.toArray) (by simpa using hp)
  have hl : d'.toList.length = L.length := by simpa using hp'.1
  refine ⟨rfl, d'.toList, by simpa using hp'.2, sorted_lists (by simpa using hl) hso, ?_, fr_sortedK d'⟩
  refine ⟨by rw [length_encT], .inr ⟨g, cap, _, by rw [hl], hb0, heap_sortedK _ hg, by omega, hmx, by simp [putCells, hcs], ?_⟩⟩
  have := take_putCellsK cur d'.toList (by rw [hl]; omega)
  simpa using this

theorem sortP_any (v : Value) (L : List Tch) (w : World) (hv : OwnT w v L) (hL : L.length ≤ 8796093022000) :
    Calls Try.prog 26 #[v, .func (.func 27) #[] #[]] w fun e w' => e = .returned (.tuple #[]) ∧ ∃ T : List Tch, T.Perm L ∧ T.Pairwise (fun x y => x.page ≤ y.page) ∧ OwnT w' v T ∧ Fr w w' (fun k => v.ownBlock = some k) := by
  rcases hv.2 with ⟨h1, h2⟩ | ⟨g, cap, cur, hv', _⟩
  · have hn : L = [] := List.eq_nil_of_length_eq_zero h2
    subst hn h1
    have hc := AnyF.slices_SortFunc_none Try.sortTch none 0 (.func (.func 27) #[] #[]) w
    change Calls Try.prog 26 _ _ _ at hc
    refine hc.mono ?_
    rintro e w' ⟨rfl, rfl⟩
    exact ⟨rfl, [], List.Perm.refl _, List.Pairwise.nil, OwnT.nil _, Fr.refl _ _⟩
  · refine (sortOwn_any v L w hv g cap hv' hL).mono ?_
    rintro e w' ⟨rfl, T, h1, h2, h3, h4⟩
    exact ⟨rfl, T, h1, h2, h3, h4.mono (fun k _ e => by rw [hv', e]; rfl)⟩
end Go.Proofs.Ytcmabldfegcdaaa
