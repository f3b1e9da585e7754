/- Rows of values of the call's own; how great an expression is. -/
import Derived.Test.YtbcmgodpplapaaaZb
import Derived.Test.YtbcmgodpplapaaaYf
namespace Go.Proofs.Ytbcmgodpplapaaa
open Go.ChangeShapes Go.WideShapes Go.ChangeAt Go.RowKit Go.Deep
set_option maxRecDepth 100000
set_option linter.unusedVariables false
set_option linter.unusedSimpArgs false

def vcells (x : Vl) : List Value := [.int .i64 x.kind, .int .i64 x.num, .string x.text]
def encVl (L : List Vl) : List Value := (L.map vcells).flatten
theorem length_encVl (L : List Vl) : (encVl L).length = L.length * 3 := by
  induction L with
  | nil => rfl
  | cons x L ih => simp only [encVl, List.map_cons, List.flatten_cons, List.length_append, List.length_cons] at *; simp only [vcells, List.length_cons, List.length_nil]; omega
theorem encVl_append (L M : List Vl) : encVl (L ++ M) = encVl L ++ encVl M := by simp [encVl]
theorem encVl_get (L : List Vl) : ∀ i x, L[i]? = some x → ∀ j, j < 3 → (encVl L)[i * 3 + j]? = (vcells x)[j]? := by
  induction L with
  | nil => intro i x h; simp at h
  | cons y L ih =>
    intro i x h j hj
    cases i with
    | zero =>
      simp only [List.getElem?_cons_zero, Option.some.injEq] at h
      subst h
      show (vcells y ++ encVl L)[0 * 3 + j]? = _
      rw [List.getElem?_append_left (by simp [vcells]; omega)]
      simp
    | succ i =>
      simp only [List.getElem?_cons_succ] at h
      show (vcells y ++ encVl L)[(i + 1) * 3 + j]? = _
      rw [List.getElem?_append_right (by simp [vcells]; omega)]
      rw [show (i + 1) * 3 + j - (vcells y).length = i * 3 + j by simp [vcells]; omega]
      exact ih i x h j hj
theorem encVl_one (L : List Vl) : ∀ u ∈ encVl L, u.oneCell' = true := by
  intro u hu
  simp only [encVl, List.mem_flatten, List.mem_map] at hu
  obtain ⟨l, ⟨x, _, rfl⟩, h⟩ := hu
  simp [vcells] at h
  rcases h with rfl | rfl | rfl <;> rfl
def OwnVl (w : World) (v : Value) (L : List Vl) : Prop := w.ownsRow 0 50 3 v L.length (encVl L)
theorem OwnVl.fr {w w' : World} {X : Nat → Prop} {v : Value} {L : List Vl} (h : OwnVl w v L) (hf : Fr w w' X) (hx : ∀ k, v.ownBlock = some k → ¬ X k) : OwnVl w' v L := ownsRow_fr h hf hx
theorem own_builtV (w : World) : OwnVl (w.alloc (.cells #[] 50)) (.slice (some ⟨w.heap.size, 0, none⟩) 0 0) [] :=
  World.ownsRow_made w _ 0 (Nat.zero_le _) (by unfold maxLen; omega) (by simp)
theorem full50 : ∃ i, Try.prog.info? 50 = some i ∧ i.zero = some (.agg #[.int .i64 0, .int .i64 0, .string ⟨#[]⟩]) ∧ i.size = 3 ∧ i.bytes = 32 := by
  have h0 : (Try.prog.info? 50).isSome = true := by kernel_rfl
  have h1 : (Try.prog.info? 50).bind (·.zero) = some (.agg #[.int .i64 0, .int .i64 0, .string ⟨#[]⟩]) := by kernel_rfl
  have h2 : (Try.prog.info? 50).map (·.size) = some 3 := by kernel_rfl
  have h3 : (Try.prog.info? 50).map (·.bytes) = some 32 := by kernel_rfl
  obtain ⟨i, hi⟩ := Option.isSome_iff_exists.1 h0
  rw [hi] at h1 h2 h3
  exact ⟨i, hi, h1, Option.some.inj h2, Option.some.inj h3⟩
theorem vals_cells {w : World} {g off : Nat} {M : List Vl} (hm : ValsIn w (some ⟨g, off, none⟩) M) : ∀ j u, (encVl M)[j]? = some u → w.cell? ((⟨g, off, none⟩ : Addr).add j) = some u := by
  intro j u hu
  rw [Addr.add_mid]
  have hlt := (List.getElem?_eq_some_iff.1 hu).1
  rw [length_encVl] at hlt
  obtain ⟨x, hx⟩ : ∃ x, M[j / 3]? = some x := ⟨_, List.getElem?_eq_getElem (by omega)⟩
  have hj : j = j / 3 * 3 + j % 3 := by omega
  have h3 : j % 3 < 3 := Nat.mod_lt _ (by omega)
  rw [hj, encVl_get M _ x hx _ h3] at hu
  obtain ⟨g', off', he, c0, c1, c2⟩ := hm _ x hx
  simp only [Option.some.injEq, Addr.mk.injEq, and_true] at he
  obtain ⟨rfl, rfl⟩ := he
  generalize j % 3 = r at hu h3 hj
  match r, h3 with
  | 0, _ => simp [vcells] at hu; subst hu; rw [hj, Nat.add_zero]; exact c0
  | 1, _ => simp [vcells] at hu; subst hu; rw [hj, ← Nat.add_assoc]; exact c1
  | 2, _ => simp [vcells] at hu; subst hu; rw [hj, ← Nat.add_assoc]; exact c2
/-- Values of whatever slice behind a row of the call's own. -/
theorem wpList_catV {w : World} {ops : Array Oper} {rest : List Oper} {o : Oper} {act : Act} {Q : Exit → Act → World → Prop} (hgd : o.guard = none) (s x : Operand)
    (ho : o.op = .call { callee := .builtin .append, args := #[s, x], argTypes := #[43, 43] }) (v : Value) (L : List Vl) (hs : act.eval s = v) (hown : OwnVl w v L)
    (ax : Option Addr) (n cx : Nat) (M : List Vl) (hn : M.length = n) (hx : act.eval x = .slice ax n cx) (hm : ValsIn w ax M) (hc : ax = none → cx = 0) (hlen : L.length + M.length ≤ 4398046511104)
    (h : ∀ v' w', OwnVl w' v' (L ++ M) → Fr w w' (fun k => v.ownBlock = some k) → Fresh w v v' → wpList Try.prog ops Q rest (act.put o.dst v') w') : wpList Try.prog ops Q (o :: rest) act w := by
  subst hn
  obtain ⟨i, hi, hz, hs9, hby⟩ := full50
  cases M with
  | nil =>
    cases ax with
    | none =>
      rw [hc rfl] at hx
      have hr := run_append_owned_none (P := Try.prog) w 0 43 o.type 50 i 3 Try.underlying43 hi v L.length (encVl L) hown
      refine wpList_plain hgd fun _ hK => wp_append_to s x 43 ho _ rfl _ rfl _ _ hs hx _ _ hr (hK _ _ (h v w ?_ (Fr.refl _ _) (.inl rfl)))
      rw [List.append_nil]; exact hown
    | some z =>
      obtain ⟨v', w', hr, q1, q2, q3⟩ := run_append_gen (P := Try.prog) w 43 o.type 50 i _ 3 32 Try.underlying43 hi hz hs9 hby rfl (by omega) v L.length (encVl L) hown z 0 cx [] rfl
        (fun j u hu => by simp at hu) (by simp) (by unfold maxLen; simp at hlen; omega) (by simp at hlen; omega)
      refine wpList_plain hgd fun _ hK => wp_append_to s x 43 ho _ rfl _ rfl _ _ hs hx _ _ hr (hK _ _ (h v' w' ?_ (Fr.grown q2) q3))
      unfold OwnVl
      simpa using q1
  | cons y M0 =>
    obtain ⟨g, off, he, _⟩ := hm 0 y rfl
    subst he
    obtain ⟨v', w', hr, q1, q2, q3⟩ := run_append_gen (P := Try.prog) w 43 o.type 50 i _ 3 32 Try.underlying43 hi hz hs9 hby rfl (by omega) v L.length (encVl L) hown ⟨g, off, none⟩ (y :: M0).length cx (encVl (y :: M0)) (by rw [length_encVl])
      (vals_cells hm) (encVl_one _) (by unfold maxLen; omega) (by omega)
    refine wpList_plain hgd fun _ hK => wp_append_to s x 43 ho _ rfl _ rfl _ _ hs hx _ _ hr (hK _ _ (h v' w' ?_ (Fr.grown q2) q3))
    unfold OwnVl; rw [List.length_append, encVl_append]; exact q1
theorem OwnVl.cell {w : World} {a : Option Addr} {c n : Nat} {L : List Vl} (h : OwnVl w (.slice a n c) L) (hn : L.length = n) {i : Nat} {x : Vl} (hi : L[i]? = some x) : ∃ g, a = some ⟨g, 0, none⟩ ∧ w.cell? ⟨g, i * 3, none⟩ = some (.int .i64 x.kind) ∧ w.cell? ⟨g, i * 3 + 1, none⟩ = some (.int .i64 x.num) ∧ w.cell? ⟨g, i * 3 + 2, none⟩ = some (.string x.text) := by
  subst hn
  obtain ⟨g, h1, h2⟩ := row_cell h (i := i * 3 + 0) (by rw [encVl_get L i x hi 0 (by omega)]; rfl)
  obtain ⟨g', h3, h4⟩ := row_cell h (i := i * 3 + 1) (by rw [encVl_get L i x hi 1 (by omega)]; rfl)
  obtain ⟨g'', h5, h6⟩ := row_cell h (i := i * 3 + 2) (by rw [encVl_get L i x hi 2 (by omega)]; rfl)
  rw [h1] at h3 h5
  simp only [Option.some.injEq, Addr.mk.injEq, and_true] at h3 h5
  subst h3 h5
  exact ⟨g, h1, h2, h4, h6⟩
theorem OwnVl.vals {w : World} {a : Option Addr} {c n : Nat} {L M : List Vl} (h : OwnVl w (.slice a n c) (L ++ M)) (hn : (L ++ M).length = n) : ValsIn w a L := by
  intro i x hx
  obtain ⟨g, h1, h2, h3, h4⟩ := h.cell hn (i := i) (x := x) (by rw [List.getElem?_append_left (List.getElem?_eq_some_iff.1 hx).1]; exact hx)
  exact ⟨g, 0, h1, by rw [Nat.zero_add]; exact h2, by rw [Nat.zero_add]; exact h3, by rw [Nat.zero_add]; exact h4⟩

mutual
/-- How many expressions there are in one. -/
def nodesE : Ex → Nat
  | .mk _ _ _ _ args => 1 + nodesL args
def nodesL : List Ex → Nat
  | [] => 0
  | e :: l => nodesE e + nodesL l
end
mutual
theorem parts_nodes (S : List Cl) : ∀ (e : Ex) (t : Tm), bindE S e = .ok t → (partsE t).length ≤ nodesE e
  | .mk op num text of_ args, t, h => by
    rw [bindE] at h
    rw [nodesE]
    split at h
    · rename_i h1; obtain rfl := Except.ok.inj h; rw [partsE, if_neg (by rw [h1]; decide)]; simp
    · split at h
      · rename_i h1
        split at h
        · cases h
        · obtain rfl := Except.ok.inj h; rw [partsE, if_neg (by rw [h1]; decide)]; simp
      · split at h
        · rename_i h1
          split at h
          · obtain rfl := Except.ok.inj h; rw [partsE, if_neg (by rw [h1]; decide)]; simp
          · cases h
        · split at h
          · cases h
          · rename_i ts hts
            split at h
            · rename_i k hk
              obtain rfl := Except.ok.inj h
              rw [partsE]
              split
              · have := partsL_nodes S args ts hts; omega
              · simp
            · cases h
theorem partsL_nodes (S : List Cl) : ∀ (l : List Ex) (ts : List Tm), bindL S l = .ok ts → (partsL ts).length ≤ nodesL l
  | [], ts, h => by rw [bindL] at h; obtain rfl := Except.ok.inj h; simp [partsL]
  | e :: l, ts, h => by
    rw [bindL] at h
    rw [nodesL]
    split at h
    · cases h
    · rename_i t ht
      split at h
      · cases h
      · rename_i us hus
        obtain rfl := Except.ok.inj h
        rw [partsL, List.length_append]
        have h1 := parts_nodes S e t ht
        have h2 := partsL_nodes S l us hus
        omega
end
theorem choose_two {α β : Type} (R : α → β → Prop) (f : β → Nat) : ∀ (L : List α) (B : List Nat), L.length = B.length → (∀ (i : Nat) (x : α) (b : Nat), L[i]? = some x → B[i]? = some b → ∃ y, R x y ∧ f y ≤ b) → ∃ M : List β, M.length = L.length ∧ (∀ (i : Nat) (x : α) (y : β), L[i]? = some x → M[i]? = some y → R x y) ∧ (M.map f).sum ≤ B.sum
  | [], B, _, _ => ⟨[], rfl, (fun i x y h => by simp at h), by simp⟩
  | x :: L, [], h, _ => by simp at h
  | x :: L, b :: B, hl, h => by
    obtain ⟨y, hy, hb⟩ := h 0 x b rfl rfl
    obtain ⟨M, h1, h2, h3⟩ := choose_two R f L B (by simpa using hl) (fun i x b hx hb => h (i + 1) x b (by simpa using hx) (by simpa using hb))
    refine ⟨y :: M, by simp [h1], ?_, by simp only [List.map_cons, List.sum_cons]; omega⟩
    intro i a c ha hc
    cases i with
    | zero =>
      simp only [List.getElem?_cons_zero, Option.some.injEq] at ha hc
      subst ha hc
      exact hy
    | succ i => exact h2 i a c (by simpa using ha) (by simpa using hc)
theorem nodesL_sum : ∀ l : List Ex, nodesL l = (l.map nodesE).sum
  | [] => by simp [nodesL]
  | e :: l => by simp [nodesL, nodesL_sum l]
theorem trod_ex2 {H : Type} {enc : TypeId × Value → H} {W : World} : ∀ (N : Nat), N ≤ 1048576 → ∀ (fuel : Nat) (cs : List Value) (d : DataW H) (p : List MemPlace), DataW.trod enc Try.prog W 0 (fun _ => true) true fuel 42 cs = some (d, p) → Rows.uptoBulk d ≤ N → ∃ e : Ex, ExAt W e (.agg cs.toArray) ∧ nodesE e ≤ Rows.uptoBulk d
  | 0, _, fuel, cs, d, p, h, hb => by have := bulk_one_le d; omega
  | N + 1, hN, fuel, cs, d, p, h, hb => by
    obtain ⟨xs, n, _, hd, hl, hxl, hf⟩ := DataW.trod_struct Try.underlying42 h
    rw [cells42] at hl
    match cs, hl with
    | [c0, c1, c2, c3, c4], _ =>
      have hxl5 : xs.length = 5 := hxl
      match xs, hxl5 with
      | [y0, y1, y2, y3, y4], _ =>
        have f0 : DataW.trod enc Try.prog W 0 (fun _ => true) true n 9 (([c0, c1, c2, c3, c4].drop 0).take (Try.prog.cellsOf 9)) = [y0, y1, y2, y3, y4][0]? := hf 0 _ rfl
        rw [cells9] at f0
        change DataW.trod enc Try.prog W 0 (fun _ => true) true n 9 [c0] = some y0 at f0
        have f1 : DataW.trod enc Try.prog W 0 (fun _ => true) true n 2 (([c0, c1, c2, c3, c4].drop 1).take (Try.prog.cellsOf 2)) = [y0, y1, y2, y3, y4][1]? := hf 1 _ rfl
        rw [show Try.prog.cellsOf 2 = 1 by kernel_rfl] at f1
        change DataW.trod enc Try.prog W 0 (fun _ => true) true n 2 [c1] = some y1 at f1
        have f2 : DataW.trod enc Try.prog W 0 (fun _ => true) true n 9 (([c0, c1, c2, c3, c4].drop 2).take (Try.prog.cellsOf 9)) = [y0, y1, y2, y3, y4][2]? := hf 2 _ rfl
        rw [cells9] at f2
        change DataW.trod enc Try.prog W 0 (fun _ => true) true n 9 [c2] = some y2 at f2
        have f3 : DataW.trod enc Try.prog W 0 (fun _ => true) true n 9 (([c0, c1, c2, c3, c4].drop 3).take (Try.prog.cellsOf 9)) = [y0, y1, y2, y3, y4][3]? := hf 3 _ rfl
        rw [cells9] at f3
        change DataW.trod enc Try.prog W 0 (fun _ => true) true n 9 [c3] = some y3 at f3
        have f4 : DataW.trod enc Try.prog W 0 (fun _ => true) true n 40 (([c0, c1, c2, c3, c4].drop 4).take (Try.prog.cellsOf 40)) = [y0, y1, y2, y3, y4][4]? := hf 4 _ rfl
        rw [cells40] at f4
        change DataW.trod enc Try.prog W 0 (fun _ => true) true n 40 [c4] = some y4 at f4
        have hd1 : d = .agg [y0.1, y1.1, y2.1, y3.1, y4.1] := (Prod.mk.inj hd).1
        obtain ⟨s0, e0, _⟩ := DataW.trod_string Try.underlying9 f0
        obtain ⟨k, e1, _⟩ := DataW.trod_int Try.underlying2 f1
        obtain ⟨s2, e2, _⟩ := DataW.trod_string Try.underlying9 f2
        obtain ⟨s3, e3, _⟩ := DataW.trod_string Try.underlying9 f3
        have hb4 : Rows.uptoBulk y4.1 + 1 ≤ Rows.uptoBulk d := by
          rw [hd1]
          simp only [Rows.uptoBulk, Rows.uptoBulkAll]
          omega
        obtain ⟨a, m, c, L, B, e4, hL, hB, _, _, hS, hOk, hR⟩ := open_row (d := y4.1) (p := y4.2) Try.underlying40 cells42 (by omega) (fun x : { l : List Value // l.length = 5 } => x.1) (fun x => x.2) (fun x b => 1 ≤ b ∧ (b ≤ N → ∃ e : Ex, ExAt W e (.agg x.1.toArray) ∧ nodesE e ≤ b))
          (fun n cs D Pl h => by
            obtain ⟨_, _, _, _, hl', _, _⟩ := DataW.trod_struct Try.underlying42 h
            rw [cells42] at hl'
            exact ⟨⟨cs, hl'⟩, rfl, bulk_one_le _, fun hle => trod_ex2 N (by omega) n cs D Pl h hle⟩) f4
        have hmem : ∀ (L : List Nat) (b : Nat), b ∈ L → b ≤ L.sum := by
          intro L
          induction L with
          | nil => intro b hb; cases hb
          | cons a L ih => intro b hb; rcases List.mem_cons.1 hb with rfl | hb; simp only [List.sum_cons]; omega; have := ih b hb; simp only [List.sum_cons]; omega
        have hsl : ∀ (L : List Nat), (∀ b ∈ L, 1 ≤ b) → L.length ≤ L.sum := by
          intro L
          induction L with
          | nil => simp
          | cons a L ih => intro hL; have h1 := hL a (by simp); have h2 := ih (fun b hb => hL b (by simp [hb])); simp only [List.length_cons, List.sum_cons]; omega
        obtain ⟨M, hM, hMR, hMS⟩ := choose_two (fun (x : { l : List Value // l.length = 5 }) (e : Ex) => ExAt W e (.agg x.1.toArray)) nodesE L B (by omega) (fun i x b hx hb => by
          have := hmem B b (List.mem_of_getElem? hb)
          exact (hOk i x b hx hb).2 (by omega))
        have hlen : m ≤ B.sum := by
          have := hsl B (fun b hb => by
            obtain ⟨i, hi⟩ := List.getElem?_of_mem hb
            obtain ⟨x, hx⟩ : ∃ x, L[i]? = some x := ⟨_, List.getElem?_eq_getElem (by have := (List.getElem?_eq_some_iff.1 hi).1; omega)⟩
            exact (hOk i x b hx hi).1)
          omega
        simp only [List.cons.injEq, and_true] at e0 e1 e2 e3
        subst e0 e1 e2 e3 e4
        refine ⟨.mk s0 k s2 s3 M, ?_, by rw [nodesE, nodesL_sum]; omega⟩
        unfold ExAt
        refine ⟨a, c, by rw [hM, hL], by omega, ExsAt.of M 0 ?_⟩
        intro j e he
        obtain ⟨x, hx⟩ : ∃ x, L[j]? = some x := ⟨_, List.getElem?_eq_getElem (by have := (List.getElem?_eq_some_iff.1 he).1; omega)⟩
        obtain ⟨g, off, ha, hr⟩ := hR j x hx
        have hex := hMR j x e hx he
        obtain ⟨l, hl5⟩ := x
        match l, hl5 with
        | [x0, x1, x2, x3, x4], _ =>
          rw [Nat.zero_add]
          exact ⟨g, off, x0, x1, x2, x3, x4, ha, by have := hr 0 _ rfl; simpa using this, hr 1 _ rfl, hr 2 _ rfl, hr 3 _ rfl, hr 4 _ rfl, hex⟩
theorem open_expr2 {H : Type} {enc : TypeId × Value → H} {W : World} {base : Nat} {v : Value} {d : DataW H} {p : List MemPlace} (hok : Value.okWide Try.prog W .any base 42 v) (h : DataW.Trod enc Try.prog W 0 (fun _ => true) true 42 v d p) (hs : Rows.uptoBulk d ≤ 1048576) : ∃ e : Ex, ExAt W e v ∧ nodesE e ≤ 1048576 := by
  obtain ⟨cs, rfl, hn⟩ := okWide_struct Try.underlying42 hok
  obtain ⟨fuel, hf⟩ := h
  obtain ⟨e, h1, h2⟩ := trod_ex2 1048576 (Nat.le_refl _) fuel _ d p hf hs
  exact ⟨e, h1, by omega⟩
theorem open_vals2 {H : Type} {enc : TypeId × Value → H} {W : World} {v : Value} {d : DataW H} {p : List MemPlace} (h : ∃ fuel, DataW.trod enc Try.prog W 0 (fun _ => true) true fuel 43 [v] = some (d, p)) (hs : Rows.uptoBulk d ≤ 1048576) :
    ∃ (a : Option Addr) (n c : Nat) (R : List Vl), v = .slice a n c ∧ R.length = n ∧ ValsIn W a R ∧ n ≤ 1048576 ∧ (a = none → c = 0) := by
  obtain ⟨fuel, hf⟩ := h
  obtain ⟨a, n, c, R, B, hv, hR, hB, _, hnc, hS, hOk, hRR⟩ := open_row (d := d) (p := p) Try.underlying43 cells50 (by omega) (fun x : Vl => [.int .i64 x.kind, .int .i64 x.num, .string x.text]) (fun _ => rfl) (fun _ b => 1 ≤ b) (fun n cs D Pl h => trod_val n cs D Pl h) hf
  have hsl : ∀ (L : List Nat), (∀ b ∈ L, 1 ≤ b) → L.length ≤ L.sum := by
    intro L
    induction L with
    | nil => simp
    | cons a L ih => intro hL; have h1 := hL a (by simp); have h2 := ih (fun b hb => hL b (by simp [hb])); simp only [List.length_cons, List.sum_cons]; omega
  have := hsl B (fun b hb => by
    obtain ⟨i, hi⟩ := List.getElem?_of_mem hb
    obtain ⟨x, hx⟩ : ∃ x, R[i]? = some x := ⟨_, List.getElem?_eq_getElem (by have := (List.getElem?_eq_some_iff.1 hi).1; omega)⟩
    exact hOk i x b hx hi)
  refine ⟨a, n, c, R, hv, hR, ?_, by omega, hnc⟩
  intro i x hx
  obtain ⟨g, off, ha, hr⟩ := hRR i x hx
  exact ⟨g, off, ha, by have := hr 0 _ rfl; simpa using this, hr 1 _ rfl, hr 2 _ rfl⟩
end Go.Proofs.Ytbcmgodpplapaaa
