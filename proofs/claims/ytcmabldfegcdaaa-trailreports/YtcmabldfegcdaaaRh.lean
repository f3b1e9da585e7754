/- Both reports are the same, plainly; the document's entries as a row; marks put behind a row. -/
import Derived.Test.YtcmabldfegcdaaaRe
namespace Go.Proofs.Ytcmabldfegcdaaa
open Go.RowKit
set_option maxRecDepth 100000
set_option linter.unusedVariables false
set_option linter.unusedSimpArgs false

theorem keyed_eq : ∀ {L M : List Tch}, L.Pairwise (fun x y => x.page < y.page) → M.Pairwise (fun x y => x.page < y.page) → (∀ x, x ∈ L ↔ x ∈ M) → L = M
  | [], [], _, _, _ => rfl
  | [], b :: M, _, _, h => by have := (h b).2 List.mem_cons_self; cases this
  | a :: L, [], _, _, h => by have := (h a).1 List.mem_cons_self; cases this
  | a :: L, b :: M, hl, hm, h => by
    obtain ⟨l1, l2⟩ := List.pairwise_cons.1 hl
    obtain ⟨m1, m2⟩ := List.pairwise_cons.1 hm
    have hab : a = b := by
      rcases List.mem_cons.1 ((h a).1 List.mem_cons_self) with e | e
      · exact e
      · rcases List.mem_cons.1 ((h b).2 List.mem_cons_self) with e' | e'
        · exact e'.symm
        · have := m1 a e; have := l1 b e'; omega
    subst hab
    congr 1
    refine keyed_eq l2 m2 (fun x => ⟨fun hx => ?_, fun hx => ?_⟩)
    · rcases List.mem_cons.1 ((h x).1 (List.mem_cons_of_mem _ hx)) with e | e
      · subst e; have := l1 x hx; omega
      · exact e
    · rcases List.mem_cons.1 ((h x).2 (List.mem_cons_of_mem _ hx)) with e | e
      · subst e; have := m1 x hx; omega
      · exact e
theorem losers_eq (M : List Int) (E : List Ent) {n : Nat} (hn : E.length = n) (hin : ∀ e ∈ E, In64 e.txn ∧ In64 e.page) {Z Z' : List Int} (hp : Z.Pairwise (· < ·)) (hz : ∀ x, x ∈ Z ↔ In64 x ∧ (runS M (dE E) n).f x = some 0) (hp' : Z'.Pairwise (· < ·)) (hz' : ∀ x, x ∈ Z' ↔ x ∈ lostP E n) : Z = Z' := by
  subst hn
  refine rising_eq hp hp' (fun x => ?_)
  rw [hz, hz']
  obtain ⟨_, h2, h3⟩ := run_com M E E.length (Nat.le_refl _) x
  unfold lostP
  constructor
  · rintro ⟨_, hf⟩
    rw [hf] at h2 h3
    obtain ⟨e, he, rfl⟩ := h3.1 rfl
    exact List.mem_map.2 ⟨e, List.mem_filter.2 ⟨he, by rw [h2.1 rfl]; rfl⟩, rfl⟩
  · intro hx
    obtain ⟨e, he, rfl⟩ := List.mem_map.1 hx
    obtain ⟨he, hc⟩ := List.mem_filter.1 he
    refine ⟨(hin e (List.mem_of_mem_take he)).1, ?_⟩
    have hc : comP E E.length e.txn = false := by simpa using hc
    have h4 := h2.2 hc
    have h5 := h3.2 ⟨e, he, rfl⟩
    cases hf : (runS M (dE E) E.length).f e.txn with
    | none => rw [hf] at h5; cases h5
    | some z => rw [hf] at h4; have h4 : z = 0 := h4; rw [h4]
theorem pages_eq (M : List Int) (E : List Ent) {n : Nat} (hn : E.length = n) (hin : ∀ e ∈ E, In64 e.txn ∧ In64 e.page) {T : List Tch} {P : List Int} (hp : T.Pairwise (fun x y => x.page < y.page)) (hz : ∀ y, y ∈ T ↔ In64 y.page ∧ (runS M (dE E) n).fp y.page = some y) (hp' : P.Pairwise (· < ·)) (hz' : ∀ x, x ∈ P ↔ x ∈ pagP E n) : T = P.map (ttP M E) := by
  subst hn
  refine keyed_eq hp ?_ (fun y => ?_)
  · rw [List.pairwise_map]
    exact hp'.imp (fun h => by rw [ttP_page, ttP_page]; exact h)
  · rw [hz]
    constructor
    · rintro ⟨_, hf⟩
      refine List.mem_map.2 ⟨y.page, (hz' _).2 ((run_pag M E E.length (Nat.le_refl _) y.page).1 (by rw [hf]; rfl)), ?_⟩
      unfold ttP
      rw [hf]
      rfl
    · intro hy
      obtain ⟨p, hP, rfl⟩ := List.mem_map.1 hy
      have h1 := (hz' p).1 hP
      rw [ttP_page]
      constructor
      · unfold pagP at h1
        obtain ⟨e, he, rfl⟩ := List.mem_map.1 h1
        exact (hin e (List.mem_of_mem_take (List.mem_filter.1 he).1)).2
      · have h2 := (run_pag M E E.length (Nat.le_refl _) p).2 h1
        unfold ttP
        obtain ⟨y, hy⟩ := Option.isSome_iff_exists.1 h2
        rw [hy]
        rfl
theorem lastP_spec (E : List Ent) : ∀ k, k ≤ E.length → 0 ≤ lastP E k ∧ (∀ e ∈ E.take k, e.txn ≤ lastP E k) ∧ (lastP E k = 0 ∨ ∃ e ∈ E.take k, e.txn = lastP E k)
  | 0, _ => by simp [lastP]
  | k + 1, hk => by
    obtain ⟨e, he⟩ : ∃ e, E[k]? = some e := ⟨_, List.getElem?_eq_getElem (by omega)⟩
    obtain ⟨h1, h2, h3⟩ := lastP_spec E k (by omega)
    rw [lastP_succ he, List.take_add_one, he]
    simp only [Option.toList_some, List.mem_append, List.mem_singleton]
    by_cases hl : lastP E k < e.txn
    · rw [if_pos hl]
      refine ⟨by omega, ?_, .inr ⟨e, .inr rfl, rfl⟩⟩
      rintro x (hx | rfl)
      · have := h2 x hx; omega
      · exact Int.le_refl _
    · rw [if_neg hl]
      refine ⟨h1, ?_, ?_⟩
      · rintro x (hx | rfl)
        · exact h2 x hx
        · omega
      · rcases h3 with h | ⟨x, hx, h⟩
        · exact .inl h
        · exact .inr ⟨x, .inl hx, h⟩
theorem last_eq (M : List Int) (E : List Ent) {n : Nat} (hn : E.length = n) (hin : ∀ e ∈ E, In64 e.txn ∧ In64 e.page) {m : Int} (h0 : 0 ≤ m) (h1 : ∀ x, In64 x → ((runS M (dE E) n).f x).isSome = true → x ≤ m) (h2 : m = 0 ∨ (In64 m ∧ ((runS M (dE E) n).f m).isSome = true)) : m = lastP E n := by
  subst hn
  obtain ⟨g0, g1, g2⟩ := lastP_spec E E.length (Nat.le_refl _)
  have ha : m ≤ lastP E E.length := by
    rcases h2 with h2 | ⟨_, h2⟩
    · omega
    · obtain ⟨e, he, rfl⟩ := (run_com M E E.length (Nat.le_refl _) m).2.2.1 h2
      exact g1 e he
  have hb : lastP E E.length ≤ m := by
    rcases g2 with g2 | ⟨e, he, g2⟩
    · omega
    · rw [← g2]
      exact h1 _ (hin e (List.mem_of_mem_take he)).1 ((run_com M E E.length (Nat.le_refl _) e.txn).2.2.2 ⟨e, he, rfl⟩)
  omega
theorem run_dE (M : List Int) {La : List Er} {E : List Ent} (h : La.map Prod.fst = E) (n : Nat) : runS M La n = runS M (dE E) n :=
  runS_congr M La (dE E) n (fun i _ => get_map (by rw [h, dE, List.map_map]; exact (List.map_id' E).symm) i)

/-- The document's entries as a row. -/
def dcells (e : Ent) : List Value := [.int .i64 e.kind, .int .i64 e.txn, .int .i64 e.page, .int .i64 e.slot, .int .i64 e.stamp, .string (strOf e.data)]
def encD (L : List Ent) : List Value := (L.map dcells).flatten
theorem length_encD (L : List Ent) : (encD L).length = L.length * 6 := by
  induction L with
  | nil => rfl
  | cons x L ih => simp only [encD, List.map_cons, List.flatten_cons, List.length_append, List.length_cons] at *; simp only [dcells, List.length_cons, List.length_nil]; omega
theorem encD_append (L M : List Ent) : encD (L ++ M) = encD L ++ encD M := by simp [encD]
theorem encD_get (L : List Ent) : ∀ i x, L[i]? = some x → ∀ j, j < 6 → (encD L)[i * 6 + j]? = (dcells x)[j]? := by
  induction L with
  | nil => intro i x h; simp at h
  | cons y L ih =>
    intro i x h j hj
    cases i with
    | zero =>
      simp only [List.getElem?_cons_zero, Option.some.injEq] at h
      subst h
      show (dcells y ++ encD L)[0 * 6 + j]? = _
      rw [List.getElem?_append_left (by simp [dcells]; omega)]
      simp
    | succ i =>
      simp only [List.getElem?_cons_succ] at h
      show (dcells y ++ encD L)[(i + 1) * 6 + j]? = _
      rw [List.getElem?_append_right (by simp [dcells]; omega)]
      rw [show (i + 1) * 6 + j - (dcells y).length = i * 6 + j by simp [dcells]; omega]
      exact ih i x h j hj
def OwnD (w : World) (v : Value) (L : List Ent) : Prop := w.ownsRow 0 37 6 v L.length (encD L)
theorem OwnD.nil (w : World) : OwnD w (.slice none 0 0) [] := World.ownsRow_nil w 0 37 6
theorem OwnD.fr {w w' : World} {X : Nat → Prop} {v : Value} {L : List Ent} (h : OwnD w v L) (hf : Fr w w' X) (hx : ∀ k, v.ownBlock = some k → ¬ X k) : OwnD w' v L := ownsRow_fr h hf hx
theorem OwnD.ents {w : World} {a : Option Addr} {c n : Nat} {L : List Ent} (h : OwnD w (.slice a n c) L) (hn : L.length = n) : REnts w a L := by
  subst hn
  intro i e he
  obtain ⟨g, h1, h2⟩ := row_cell h (i := i * 6 + 0) (by rw [encD_get L i e he 0 (by omega)]; rfl)
  obtain ⟨g1, h3, h4⟩ := row_cell h (i := i * 6 + 1) (by rw [encD_get L i e he 1 (by omega)]; rfl)
  obtain ⟨g2, h5, h6⟩ := row_cell h (i := i * 6 + 2) (by rw [encD_get L i e he 2 (by omega)]; rfl)
  obtain ⟨g3, h7, h8⟩ := row_cell h (i := i * 6 + 4) (by rw [encD_get L i e he 4 (by omega)]; rfl)
  rw [h1] at h3 h5 h7
  simp only [Option.some.injEq, Addr.mk.injEq, and_true] at h3 h5 h7
  subst h3 h5 h7
  exact ⟨g, h1, h2, h4, h6, h8⟩
theorem full37 : ∃ i, Try.prog.info? 37 = some i ∧ i.zero = some (.agg #[.int .i64 0, .int .i64 0, .int .i64 0, .int .i64 0, .int .i64 0, .string ⟨#[]⟩]) ∧ i.size = 6 ∧ i.bytes = 56 := by
  have h0 : (Try.prog.info? 37).isSome = true := by kernel_rfl
  have h1 : (Try.prog.info? 37).bind (·.zero) = some (.agg #[.int .i64 0, .int .i64 0, .int .i64 0, .int .i64 0, .int .i64 0, .string ⟨#[]⟩]) := by kernel_rfl
  have h2 : (Try.prog.info? 37).map (·.size) = some 6 := by kernel_rfl
  have h3 : (Try.prog.info? 37).map (·.bytes) = some 56 := by kernel_rfl
  obtain ⟨i, hi⟩ := Option.isSome_iff_exists.1 h0
  rw [hi] at h1 h2 h3
  exact ⟨i, hi, h1, Option.some.inj h2, Option.some.inj h3⟩
theorem wpList_pushD {w : World} {ops : Array Oper} {rest : List Oper} {o : Oper} {act : Act} {Q : Exit → Act → World → Prop} (hgd : o.guard = none) (s x : Operand)
    (ho : o.op = .call { callee := .builtin .append, args := #[s, x], argTypes := #[35, 35] }) (v : Value) (L : List Ent) (hs : act.eval s = v) (hown : OwnD w v L) (y : Ent)
    (g : Nat) (hx : act.eval x = .slice (some ⟨g, 0, none⟩) 1 1) (hg : w.heap.size = g) (hlen : L.length + 1 ≤ 2199023255552)
    (h : ∀ v' w', OwnD w' v' (L ++ [y]) → Fr w w' (fun k => v.ownBlock = some k) → Fresh w v v' → wpList Try.prog ops Q rest (act.put o.dst v') w') : wpList Try.prog ops Q (o :: rest) act (w.alloc (.cells #[.int .i64 y.kind, .int .i64 y.txn, .int .i64 y.page, .int .i64 y.slot, .int .i64 y.stamp, .string (strOf y.data)] 37)) := by
  subst hg
  obtain ⟨i, hi, hz, hs2, hby⟩ := full37
  have A := Fr.alloc w (.cells #[.int .i64 y.kind, .int .i64 y.txn, .int .i64 y.page, .int .i64 y.slot, .int .i64 y.stamp, .string (strOf y.data)] 37) (fun _ => False)
  obtain ⟨v', w', hr, q1, q2, q3⟩ := run_append_gen (P := Try.prog) (w.alloc (.cells #[.int .i64 y.kind, .int .i64 y.txn, .int .i64 y.page, .int .i64 y.slot, .int .i64 y.stamp, .string (strOf y.data)] 37)) 35 o.type 37 i _ 6 56 Try.underlying35 hi hz hs2 hby rfl (by omega) v L.length (encD L) (ownsRow_fr hown A (by simp)) ⟨w.heap.size, 0, none⟩ 1 1 (encD [y]) (by rw [length_encD]; rfl)
    (fun j u hu => by rw [Addr.add_mid, cell_of_row _ _ _ _ _ _ (heap_alloc_new w _), Nat.zero_add]; simpa [encD, dcells] using hu) (by intro u hu; simp [encD, dcells] at hu; rcases hu with rfl | rfl | rfl | rfl | rfl | rfl <;> rfl) (by unfold maxLen; omega) (by omega)
  refine wpList_plain hgd fun _ hK => wp_append_to s x 35 ho _ rfl _ rfl _ _ hs hx _ _ hr (hK _ _ (h v' w' ?_ ?_ ?_))
  · unfold OwnD; rw [List.length_append, encD_append]; exact q1
  · exact (A.trans (Fr.grown q2)).mono (by rintro k _ (h1 | h1); exact h1.elim; exact h1)
  · rcases q3 with h1 | ⟨k, h1, h2⟩
    · exact .inl h1
    · exact .inr ⟨k, h1, by simp at h2; omega⟩
/-- Marks that came in. -/
def MarksIn (w : World) (a : Option Addr) (M : List Int) : Prop := ∀ (k : Nat) (v : Int), M[k]? = some v → ∃ g off, a = some ⟨g, off, none⟩ ∧ w.cell? ⟨g, off + k, none⟩ = some (.int .i64 v)
theorem MarksIn.fr {w w' : World} {a : Option Addr} {M : List Int} (h : MarksIn w a M) (hf : Fr w w' (fun _ => False)) : MarksIn w' a M := by
  intro k v hk
  obtain ⟨g, off, hg, hr⟩ := h k v hk
  exact ⟨g, off, hg, by rw [World.cell?_of_block (w := w) (hf.block g (World.block_lt_of_cell? w _ hr) (fun h => h))]; exact hr⟩
/-- Marks that came in go behind a row of the call's own. -/
theorem wpList_catI {w : World} {ops : Array Oper} {rest : List Oper} {o : Oper} {act : Act} {Q : Exit → Act → World → Prop} (hgd : o.guard = none) (s x : Operand)
    (ho : o.op = .call { callee := .builtin .append, args := #[s, x], argTypes := #[23, 23] }) (v : Value) (L : List Int) (hs : act.eval s = v) (hown : OwnI w v L)
    (ax : Option Addr) (cx n : Nat) (M : List Int) (hn : M.length = n) (hx : act.eval x = .slice ax n cx) (hm : MarksIn w ax M) (hc : ax = none → cx = 0) (hlen : L.length + n ≤ 17592186044416)
    (h : ∀ v' w', OwnI w' v' (L ++ M) → Fr w w' (fun k => v.ownBlock = some k) → Fresh w v v' → wpList Try.prog ops Q rest (act.put o.dst v') w') : wpList Try.prog ops Q (o :: rest) act w := by
  subst hn
  obtain ⟨i, hi, hz, hs9, hby⟩ := full2
  cases ax with
  | none =>
    have hM : M = [] := by
      cases M with
      | nil => rfl
      | cons a M => obtain ⟨_, _, h1, _⟩ := hm 0 a rfl; cases h1
    subst hM
    rw [hc rfl] at hx
    have hr := run_append_owned_none (P := Try.prog) w 0 23 o.type 2 i 1 Try.underlying23 hi v L.length (L.map (Value.int .i64)) hown
    refine wpList_plain hgd fun _ hK => wp_append_to s x 23 ho _ rfl _ rfl _ _ hs hx _ _ hr (hK _ _ (h v w ?_ (Fr.refl _ _) (.inl rfl)))
    rw [List.append_nil]; exact hown
  | some z =>
    obtain ⟨v', w', hr, q1, q2, q3⟩ := run_append_gen (P := Try.prog) w 23 o.type 2 i _ 1 8 Try.underlying23 hi hz hs9 hby rfl (by omega) v L.length (L.map (Value.int .i64)) hown z M.length cx (M.map (Value.int .i64)) (by simp)
      (fun j u hu => by
        rw [List.getElem?_map] at hu
        cases hj : M[j]? with
        | none => rw [hj] at hu; cases hu
        | some y =>
          rw [hj] at hu
          obtain ⟨g, off, h1, h2⟩ := hm j y hj
          obtain rfl := Option.some.inj h1
          rw [Addr.add_mid, h2]
          exact hu) (by intro u hu; simp at hu; obtain ⟨z, _, rfl⟩ := hu; rfl) (by unfold maxLen; omega) (by omega)
    refine wpList_plain hgd fun _ hK => wp_append_to s x 23 ho _ rfl _ rfl _ _ hs hx _ _ hr (hK _ _ (h v' w' ?_ (Fr.grown q2) q3))
    unfold OwnI; rw [List.length_append, List.map_append]; exact q1
theorem own_emptyI (w : World) : OwnI (w.alloc (.cells #[] 2)) (.slice (some ⟨w.heap.size, 0, none⟩) 0 0) [] :=
  World.ownsRow_made w _ 0 (Nat.zero_le _) (by unfold maxLen; omega) (by simp)
theorem emptyI (w : World) : (Instr.buildSlice 23 0 #[]).run Try.prog w = .ok (.slice (some ⟨w.heap.size, 0, none⟩) 0 0) (w.alloc (.cells #[] 2)) := by kernel_rfl
end Go.Proofs.Ytcmabldfegcdaaa
