/- Scope: the columns of tables. -/
import Derived.Test.YtbcmgodpplapaaaM
namespace Go.Proofs.Ytbcmgodpplapaaa
open Go.RowKit
set_option maxRecDepth 100000
set_option linter.unusedVariables false
set_option linter.unusedSimpArgs false

structure Tb where
  id : Int
  name : ByteArray
  cols : List (ByteArray × Int)
  ca : Option Addr
  cc : Nat
  ka : Option Addr
  kn : Nat
  kc : Nat
  ix : Bool
def CksIn (w : World) (a : Option Addr) (L : List (ByteArray × Int)) : Prop := ∀ (i : Nat) (x : ByteArray × Int), L[i]? = some x → ∃ g off, a = some ⟨g, off, none⟩ ∧ w.cell? ⟨g, off + i * 2, none⟩ = some (.string x.1) ∧ w.cell? ⟨g, off + i * 2 + 1, none⟩ = some (.int .i64 x.2)
theorem CksIn.fr {w w' : World} {a : Option Addr} {L : List (ByteArray × Int)} (h : CksIn w a L) (hf : Fr w w' (fun _ => False)) : CksIn w' a L := by
  intro i x hx
  obtain ⟨g, off, hg, x0, x1⟩ := h i x hx
  have hb := hf.block g (World.block_lt_of_cell? w _ x0) (fun h => h)
  have e : ∀ o, w'.cell? ⟨g, o, none⟩ = w.cell? ⟨g, o, none⟩ := fun o => World.cell?_of_block (w := w) hb
  exact ⟨g, off, hg, by rw [e]; exact x0, by rw [e]; exact x1⟩
def TabsIn (w : World) (a : Option Addr) (L : List Tb) : Prop := ∀ (i : Nat) (t : Tb), L[i]? = some t → (∃ g off, a = some ⟨g, off, none⟩ ∧ w.cell? ⟨g, off + i * 5, none⟩ = some (.int .i64 t.id) ∧ w.cell? ⟨g, off + i * 5 + 1, none⟩ = some (.string t.name) ∧ w.cell? ⟨g, off + i * 5 + 2, none⟩ = some (.slice t.ca t.cols.length t.cc) ∧ w.cell? ⟨g, off + i * 5 + 3, none⟩ = some (.slice t.ka t.kn t.kc) ∧ w.cell? ⟨g, off + i * 5 + 4, none⟩ = some (.bool t.ix)) ∧ CksIn w t.ca t.cols
theorem TabsIn.fr {w w' : World} {a : Option Addr} {L : List Tb} (h : TabsIn w a L) (hf : Fr w w' (fun _ => False)) : TabsIn w' a L := by
  intro i x hx
  obtain ⟨⟨g, off, hg, x0, x1, x2, x3, x4⟩, hc⟩ := h i x hx
  have hb := hf.block g (World.block_lt_of_cell? w _ x0) (fun h => h)
  have e : ∀ o, w'.cell? ⟨g, o, none⟩ = w.cell? ⟨g, o, none⟩ := fun o => World.cell?_of_block (w := w) hb
  exact ⟨⟨g, off, hg, by rw [e]; exact x0, by rw [e]; exact x1, by rw [e]; exact x2, by rw [e]; exact x3, by rw [e]; exact x4⟩, hc.fr hf⟩
def colsP (t : Tb) (j : Nat) : List Cl := (t.cols.take j).map fun x => ⟨t.name, x.1, x.2⟩
def scopeP (T : List Tb) (k : Nat) : List Cl := (T.take k).flatMap fun t => colsP t t.cols.length
theorem colsP_succ {t : Tb} {j : Nat} {x : ByteArray × Int} (h : t.cols[j]? = some x) : colsP t (j + 1) = colsP t j ++ [⟨t.name, x.1, x.2⟩] := by
  unfold colsP
  rw [List.take_add_one, h, List.map_append]
  rfl
theorem scopeP_succ {T : List Tb} {k : Nat} {t : Tb} (h : T[k]? = some t) : scopeP T (k + 1) = scopeP T k ++ colsP t t.cols.length := by
  unfold scopeP
  rw [List.take_add_one, h, List.flatMap_append]
  simp
theorem scopeP_len (T : List Tb) (k : Nat) (hk : k ≤ T.length) : (scopeP T k).length ≤ (scopeP T T.length).length := by
  have h : T.take T.length = T.take k ++ T.drop k := by rw [List.take_length]; exact (List.take_append_drop k T).symm
  unfold scopeP
  rw [h, List.flatMap_append, List.length_append]
  omega
def ccells (c : Cl) : List Value := [.string c.table, .string c.name, .int .i64 c.kind]
def encCl (L : List Cl) : List Value := (L.map ccells).flatten
theorem length_encCl (L : List Cl) : (encCl L).length = L.length * 3 := by
  induction L with
  | nil => rfl
  | cons x L ih => simp only [encCl, List.map_cons, List.flatten_cons, List.length_append, List.length_cons] at *; simp only [ccells, List.length_cons, List.length_nil]; omega
theorem encCl_append (L M : List Cl) : encCl (L ++ M) = encCl L ++ encCl M := by simp [encCl]
theorem encCl_get (L : List Cl) : ∀ i x, L[i]? = some x → ∀ j, j < 3 → (encCl L)[i * 3 + j]? = (ccells x)[j]? := by
  induction L with
  | nil => intro i x h; simp at h
  | cons y L ih =>
    intro i x h j hj
    cases i with
    | zero =>
      simp only [List.getElem?_cons_zero, Option.some.injEq] at h
      subst h
      show (ccells y ++ encCl L)[0 * 3 + j]? = _
      rw [List.getElem?_append_left (by simp [ccells]; omega)]
      simp
    | succ i =>
      simp only [List.getElem?_cons_succ] at h
      show (ccells y ++ encCl L)[(i + 1) * 3 + j]? = _
      rw [List.getElem?_append_right (by simp [ccells]; omega)]
      rw [show (i + 1) * 3 + j - (ccells y).length = i * 3 + j by simp [ccells]; omega]
      exact ih i x h j hj
def OwnCl (ty : TypeId) (w : World) (v : Value) (L : List Cl) : Prop := w.ownsRow 0 ty 3 v L.length (encCl L)
theorem OwnCl.nil (ty : TypeId) (w : World) : OwnCl ty w (.slice none 0 0) [] := World.ownsRow_nil w 0 ty 3
theorem OwnCl.fr {ty : TypeId} {w w' : World} {X : Nat → Prop} {v : Value} {L : List Cl} (h : OwnCl ty w v L) (hf : Fr w w' X) (hx : ∀ k, v.ownBlock = some k → ¬ X k) : OwnCl ty w' v L := ownsRow_fr h hf hx
theorem OwnCl.at {ty : TypeId} {w : World} {a : Option Addr} {c n : Nat} {L : List Cl} (h : OwnCl ty w (.slice a n c) L) (hn : L.length = n) : ColsAt w a L := by
  subst hn
  intro i x hi
  obtain ⟨g, h1, h2⟩ := row_cell h (i := i * 3 + 0) (by rw [encCl_get L i x hi 0 (by omega)]; rfl)
  obtain ⟨g', h3, h4⟩ := row_cell h (i := i * 3 + 1) (by rw [encCl_get L i x hi 1 (by omega)]; rfl)
  obtain ⟨g'', h5, h6⟩ := row_cell h (i := i * 3 + 2) (by rw [encCl_get L i x hi 2 (by omega)]; rfl)
  rw [h1] at h3 h5
  simp only [Option.some.injEq, Addr.mk.injEq, and_true] at h3 h5
  subst h3 h5
  exact ⟨g, h1, h2, h4, h6⟩
theorem full31 : ∃ i, Try.prog.info? 31 = some i ∧ i.zero = some (.agg #[.string ⟨#[]⟩, .string ⟨#[]⟩, .int .i64 0]) ∧ i.size = 3 ∧ i.bytes = 40 := by
  have h0 : (Try.prog.info? 31).isSome = true := by kernel_rfl
  have h1 : (Try.prog.info? 31).bind (·.zero) = some (.agg #[.string ⟨#[]⟩, .string ⟨#[]⟩, .int .i64 0]) := by kernel_rfl
  have h2 : (Try.prog.info? 31).map (·.size) = some 3 := by kernel_rfl
  have h3 : (Try.prog.info? 31).map (·.bytes) = some 40 := by kernel_rfl
  obtain ⟨i, hi⟩ := Option.isSome_iff_exists.1 h0
  rw [hi] at h1 h2 h3
  exact ⟨i, hi, h1, Option.some.inj h2, Option.some.inj h3⟩
theorem full33 : ∃ i, Try.prog.info? 33 = some i ∧ i.zero = some (.agg #[.string ⟨#[]⟩, .string ⟨#[]⟩, .int .i64 0]) ∧ i.size = 3 ∧ i.bytes = 40 := by
  have h0 : (Try.prog.info? 33).isSome = true := by kernel_rfl
  have h1 : (Try.prog.info? 33).bind (·.zero) = some (.agg #[.string ⟨#[]⟩, .string ⟨#[]⟩, .int .i64 0]) := by kernel_rfl
  have h2 : (Try.prog.info? 33).map (·.size) = some 3 := by kernel_rfl
  have h3 : (Try.prog.info? 33).map (·.bytes) = some 40 := by kernel_rfl
  obtain ⟨i, hi⟩ := Option.isSome_iff_exists.1 h0
  rw [hi] at h1 h2 h3
  exact ⟨i, hi, h1, Option.some.inj h2, Option.some.inj h3⟩
theorem run_pushCl {w : World} (ty : TypeId) (v : Value) (L : List Cl) (hown : OwnCl 31 w v L) (r : Cl) (g : Nat) (hc : w.rangeAt g 0 (ccells r)) (hlen : L.length ≤ 1048576) :
    ∃ v' w', (Builtin.append_ #[24, 24] ty #[v, .slice (some ⟨g, 0, none⟩) 1 1]).run Try.prog w = .ok v' w' ∧ OwnCl 31 w' v' (L ++ [r]) ∧ Fr w w' (fun k => v.ownBlock = some k) ∧ Fresh w v v' := by
  obtain ⟨i, hi, hz, hs2, hby⟩ := full31
  obtain ⟨v', w', hr, q1, q2, q3⟩ := run_append_gen (P := Try.prog) w 24 ty 31 i _ 3 40 Try.underlying24 hi hz hs2 hby rfl (by omega) v L.length (encCl L) hown ⟨g, 0, none⟩ 1 1 (encCl [r]) (by rw [length_encCl]; rfl)
    (fun j u hu => by rw [Addr.add_mid]; exact hc j u (by simpa [encCl] using hu)) (by intro u hu; simp [encCl, ccells] at hu; rcases hu with rfl | rfl | rfl <;> rfl) (by unfold maxLen; omega) (by omega)
  exact ⟨v', w', hr, by unfold OwnCl; rw [List.length_append, encCl_append]; exact q1, Fr.grown q2, q3⟩
theorem run_pushRl {w : World} (ty : TypeId) (v : Value) (L : List Cl) (hown : OwnCl 33 w v L) (r : Cl) (g : Nat) (hc : w.rangeAt g 0 (ccells r)) (hlen : L.length ≤ 1048576) :
    ∃ v' w', (Builtin.append_ #[25, 25] ty #[v, .slice (some ⟨g, 0, none⟩) 1 1]).run Try.prog w = .ok v' w' ∧ OwnCl 33 w' v' (L ++ [r]) ∧ Fr w w' (fun k => v.ownBlock = some k) ∧ Fresh w v v' := by
  obtain ⟨i, hi, hz, hs2, hby⟩ := full33
  obtain ⟨v', w', hr, q1, q2, q3⟩ := run_append_gen (P := Try.prog) w 25 ty 33 i _ 3 40 Try.underlying25 hi hz hs2 hby rfl (by omega) v L.length (encCl L) hown ⟨g, 0, none⟩ 1 1 (encCl [r]) (by rw [length_encCl]; rfl)
    (fun j u hu => by rw [Addr.add_mid]; exact hc j u (by simpa [encCl] using hu)) (by intro u hu; simp [encCl, ccells] at hu; rcases hu with rfl | rfl | rfl <;> rfl) (by unfold maxLen; omega) (by omega)
  exact ⟨v', w', hr, by unfold OwnCl; rw [List.length_append, encCl_append]; exact q1, Fr.grown q2, q3⟩
theorem wpList_pushCl {w : World} {ops : Array Oper} {rest : List Oper} {o : Oper} {act : Act} {Q : Exit → Act → World → Prop} (hgd : o.guard = none) (s x : Operand)
    (ho : o.op = .call { callee := .builtin .append, args := #[s, x], argTypes := #[24, 24] }) (v : Value) (L : List Cl) (hs : act.eval s = v) (hown : OwnCl 31 w v L) (y : Cl)
    (g : Nat) (hx : act.eval x = .slice (some ⟨g, 0, none⟩) 1 1) (hg : w.heap.size = g) (hlen : L.length ≤ 1048576)
    (h : ∀ v' w', OwnCl 31 w' v' (L ++ [y]) → Fr w w' (fun k => v.ownBlock = some k) → Fresh w v v' → wpList Try.prog ops Q rest (act.put o.dst v') w') : wpList Try.prog ops Q (o :: rest) act (w.alloc (.cells #[.string y.table, .string y.name, .int .i64 y.kind] 31)) := by
  subst hg
  have A := Fr.alloc w (.cells #[.string y.table, .string y.name, .int .i64 y.kind] 31) (fun _ => False)
  obtain ⟨v', w', hr, q1, q2, q3⟩ := run_pushCl o.type v L (hown.fr A (fun _ _ h => h)) y w.heap.size (fun j u hu => by rw [cell_of_row _ _ _ _ _ _ (heap_alloc_new w _), Nat.zero_add]; simpa [ccells] using hu) hlen
  refine wpList_plain hgd fun _ hK => wp_append_to s x 24 ho _ rfl _ rfl _ _ hs hx _ _ hr (hK _ _ (h v' w' q1 ?_ ?_))
  · exact (A.trans q2).mono (fun k _ h => h.elim False.elim id)
  · rcases q3 with h1 | ⟨k, h1, h2⟩
    · exact .inl h1
    · exact .inr ⟨k, h1, by simp at h2; omega⟩

set_option maxHeartbeats 8000000 in
theorem scope_any {w : World} (a : Option Addr) (n c : Nat) (T : List Tb) (hT : TabsIn w a T) (hn : T.length = n) (hnb : n ≤ 4611686018427387904) (hcb : ∀ t ∈ T, t.cols.length ≤ 4611686018427387904) (hb : (scopeP T T.length).length ≤ 1048576) :
    Calls Try.prog 20 #[.slice a n c] w fun e w' => ∃ v, e = .returned v ∧ OwnCl 31 w' v (scopeP T T.length) ∧ (∀ q, v.ownBlock = some q → w.heap.size ≤ q) ∧ Fr w w' (fun _ => False) := by
  have HT := hide hT
  have HN := hide hn
  have HB := hide hb
  have HCB := hide hcb
  clear hT hn hb hcb
  go_enter Try.func20, Try.ntmps20
  go_wp2_with fail
  go_loopw [3, 10] (fun v i wr => ∃ (k : Nat), k ≤ n ∧ i = .int .i64 (k : Int) ∧ OwnCl 31 wr v (scopeP T k) ∧ (∀ q, v.ownBlock = some q → w.heap.size ≤ q) ∧ Fr w wr (fun _ => False)) (fun _ i _ => n - (intOf i).toNat)
  case atStart => exact ⟨0, Nat.zero_le _, rfl, OwnCl.nil _ _, (fun q hq => by cases hq), Fr.refl _ _⟩
  case round =>
    rename World => W2
    obtain ⟨k, hk, rfl, ho, hv, hf⟩ := hrel
    have HO := hide ho
    have HV := hide hv
    have HF := hide hf
    clear ho hv hf
    rcases Nat.lt_or_ge k n with hlt | hge
    · obtain ⟨t, ht⟩ : ∃ t, T[k]? = some t := ⟨_, List.getElem?_eq_getElem (by rw [HN.out]; exact hlt)⟩
      obtain ⟨⟨g, off, hag, x0, x1, x2, x3, x4⟩, hck⟩ := (HT.out.fr HF.out) k t ht
      have HSU := hide (scopeP_succ ht)
      have HLE : Hid ((scopeP T k).length + t.cols.length ≤ 1048576) := hide (by
        have h1 := scopeP_len T (k + 1) (by rw [HN.out]; omega)
        rw [scopeP_succ ht, List.length_append] at h1
        have h2 := HB.out
        have h3 : (colsP t t.cols.length).length = t.cols.length := by unfold colsP; rw [List.length_map, List.take_length]
        omega)
      have HCK := hide ((HT.out k t ht).2)
      have hcb := HCB.out t (List.mem_of_getElem? ht)
      obtain ⟨m, hm⟩ : ∃ m, t.cols.length = m := ⟨_, rfl⟩
      rw [hm] at x2 HSU HLE hcb
      have HM := hide hm
      rw [hag]
      obtain ⟨tid, tname, tcols, tca, tcc, tka, tkn, tkc, tix⟩ := t
      simp only [] at x0 x1 x2 x3 x4
      have FA := Fr.alloc W2 (.cells #[.int .i64 tid, .string tname, .slice tca m tcc, .slice tka tkn tkc, .bool tix] 47) (fun _ => False)
      have HX := hide (fiv_of (heap_alloc_new W2 (.cells #[.int .i64 tid, .string tname, .slice tca m tcc, .slice tka tkn tkc, .bool tix] 47)))
      have HO1 := hide (HO.out.fr FA (fun _ _ h => h))
      have HF1 := hide (HF.out.two FA)
      have HOL : Hid (∀ q, u3.ownBlock = some q → q ≠ W2.heap.size) := hide (fun q hq h => by have := ownsRow_lt HO.out hq; omega)
      have HTL : Hid (W2.heap.size < (W2.alloc (.cells #[.int .i64 tid, .string tname, .slice tca m tcc, .slice tka tkn tkc, .bool tix] 47)).heap.size) := hide (by simp)
      have HTG : Hid (w.heap.size ≤ W2.heap.size) := hide HF.out.size
      clear ht hag hck hm FA
      go_wp2_with fail
      clear x0 x1 x2 x3 x4
      generalize W2.alloc (.cells #[.int .i64 tid, .string tname, .slice tca m tcc, .slice tka tkn tkc, .bool tix] 47) = W3 at *
      obtain ⟨tb, htb⟩ : ∃ tb, tb = W2.heap.size := ⟨_, rfl⟩
      rw [← htb] at HX HOL HTL HTG
      rw [← htb]
      clear htb
      go_loopw [3, 17] (fun v i wr => ∃ (j : Nat), j ≤ m ∧ i = .int .i64 (j : Int) ∧ OwnCl 31 wr v (scopeP T k ++ colsP ⟨tid, tname, tcols, tca, tcc, tka, tkn, tkc, tix⟩ j) ∧ (∀ q, v.ownBlock = some q → w.heap.size ≤ q ∧ q ≠ tb) ∧ wr.cell? ⟨tb, 1, none⟩ = some (.string tname) ∧ Fr w wr (fun _ => False)) (fun _ i _ => m - (intOf i).toNat)
      case atStart => exact ⟨0, Nat.zero_le _, rfl, by have := HO1.out; simpa [colsP] using this, fun q hq => ⟨HV.out q hq, HOL.out q hq⟩, HX.out.c1, HF1.out⟩
      case round =>
        rename World => W4
        obtain ⟨j, hj, rfl, ho, hv, hc1, hf⟩ := hrel
        have HO4 := hide ho
        have HV4 := hide hv
        have HF4 := hide hf
        clear ho hv hf HO1 HO HX HOL
        rcases Nat.lt_or_ge j m with hlt2 | hge2
        · obtain ⟨x, hx⟩ : ∃ x, tcols[j]? = some x := ⟨_, List.getElem?_eq_getElem (by have : tcols.length = m := HM.out; omega)⟩
          obtain ⟨g2, off2, hag2, z0, z1⟩ := (HCK.out.fr HF4.out) j x hx
          · have HCS := hide (colsP_succ (t := ⟨tid, tname, tcols, tca, tcc, tka, tkn, tkc, tix⟩) hx)
            obtain ⟨xn, xk⟩ := x
            have hag2 : tca = some ⟨g2, off2, none⟩ := hag2
            have z0 : W4.cell? ⟨g2, off2 + j * 2, none⟩ = some (.string xn) := z0
            have z1 : W4.cell? ⟨g2, off2 + j * 2 + 1, none⟩ = some (.int .i64 xk) := z1
            rw [hag2]
            have FB := Fr.alloc W4 (.cells #[.string xn, .int .i64 xk] 29) (fun _ => False)
            have HO5 := hide (HO4.out.fr FB (fun _ _ h => h))
            have HF5 := hide (HF4.out.two FB)
            have hc2 : (W4.alloc (.cells #[.string xn, .int .i64 xk] 29)).cell? ⟨tb, 1, none⟩ = some (.string tname) := by rw [World.cell?_of_block (w := W4) (FB.block tb (World.block_lt_of_cell? W4 _ hc1) (fun h => h))]; exact hc1
            have HC2 := hide hc2
            have HLL : Hid ((scopeP T k ++ colsP ⟨tid, tname, tcols, tca, tcc, tka, tkn, tkc, tix⟩ j).length ≤ 1048576) := hide (by have h1 := HLE.out; rw [List.length_append]; unfold colsP; rw [List.length_map]; have := List.length_take_le j tcols; simp only []; omega)
            clear hx hag2 FB
            go_wp2_with (refine wpList_pushCl rfl (.tmp 21) (.tmp 26) rfl u3 _ rfl HO5.out ⟨tname, xn, xk⟩ _ rfl (by simp) HLL.out ?_; intro v' W6 ho hf hr; have HO6 := hide ho; have HV6 : Hid (∀ q, v'.ownBlock = some q → w.heap.size ≤ q ∧ q ≠ tb) := hide (fun q hq => by rcases hr with h1 | ⟨q', h1, h2⟩; (rw [h1] at hq; exact HV4.out q hq); (rw [h1] at hq; have := Option.some.inj hq; have h3 := HF5.out.size; have h4 := World.block_lt_of_cell? _ _ HC2.out; simp only [] at h4; constructor <;> omega)); have HF6 := hide ((HF5.out.trans hf).mono (Y := fun _ => False) (by intro q hq h; rcases h with h | h; exact h; have := (HV4.out q h).1; omega)); have HC6 : Hid (W6.cell? ⟨tb, 1, none⟩ = some (.string tname)) := hide (by rw [World.cell?_of_block (w := W4.alloc (.cells #[.string xn, .int .i64 xk] 29)) (hf.block tb (World.block_lt_of_cell? _ _ HC2.out) (fun h => (HV4.out tb h).2 rfl))]; exact HC2.out); clear ho hf hr)
            go_roundw
            case rel => exact ⟨j + 1, by omega, by go_num, (show OwnCl 31 W6 v' (scopeP T k ++ colsP ⟨tid, tname, tcols, tca, tcc, tka, tkn, tkc, tix⟩ (j + 1)) from by have := HO6.out; rw [List.append_assoc] at this; rw [HCS.out]; exact this), HV6.out, HC6.out, HF6.out⟩
            case measure => simp [intOf]; omega
        · have e1 : m = j := by omega
          subst e1
          go_wp2
          go_roundw
          case rel => exact ⟨k + 1, by omega, by go_num, by rw [HSU.out]; exact HO4.out, fun q hq => (HV4.out q hq).1, HF4.out⟩
          case measure => simp [intOf]; omega
    · have e1 : n = k := by omega
      subst e1
      go_wp2
      go_ret
      exact ⟨_, rfl, by have := HO.out; rw [← HN.out] at this; exact this, HV.out, HF.out⟩
end Go.Proofs.Ytbcmgodpplapaaa
