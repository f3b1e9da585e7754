/- Rows of periods with numbers. -/
import Derived.Test.YtanfbfmpppfbhaaJi
import Derived.OwnWalk
import Derived.Test.YtanfbfmpppfbhaaJg
namespace Go.Proofs.Ytanfbfmpppfbhaa
open Go.RowKit
set_option maxRecDepth 100000
set_option linter.unusedVariables false
set_option linter.unusedSimpArgs false

def itc (p : Itm) : List Value := [.int .i64 p.id, .int .i64 p.lo, .int .i64 p.hi]
def encT (L : List Itm) : List Value := L.flatMap itc
theorem length_encT (L : List Itm) : (encT L).length = L.length * 3 := by
  induction L with
  | nil => rfl
  | cons p L ih => simp only [encT, List.flatMap_cons, List.length_append, List.length_cons] at *; rw [ih]; simp [itc]; omega
theorem encT_append (a b : List Itm) : encT (a ++ b) = encT a ++ encT b := by simp [encT]
theorem encT_oneCell (a : List Itm) : ∀ v ∈ encT a, v.oneCell' = true := by
  intro v hv
  simp only [encT, List.mem_flatMap, itc, List.mem_cons, List.not_mem_nil, or_false] at hv
  obtain ⟨p, _, rfl | rfl | rfl⟩ := hv <;> rfl
theorem encT_get (L : List Itm) (j : Nat) (p : Itm) (h : L[j]? = some p) (i : Nat) (hi : i < 3) : (encT L)[j * 3 + i]? = (itc p)[i]? := by
  induction L generalizing j with
  | nil => simp at h
  | cons x L ih =>
    have e : encT (x :: L) = itc x ++ encT L := by simp [encT]
    cases j with
    | zero =>
      simp at h; subst h
      rw [e, List.getElem?_append_left (by simp [itc]; omega)]
      simp
    | succ j =>
      simp at h
      rw [e, List.getElem?_append_right (by simp [itc]; omega)]
      have : (j + 1) * 3 + i - (itc x).length = j * 3 + i := by simp [itc]; omega
      rw [this]
      exact ih j h
/-- Periods with numbers, somewhere in a block. -/
def Itms (w : World) (a : Option Addr) (L : List Itm) : Prop :=
  L = [] ∨ ∃ g off, a = some ⟨g, off, none⟩ ∧ ∀ (j : Nat) (p : Itm), L[j]? = some p → w.cell? ⟨g, off + j * 3, none⟩ = some (.int .i64 p.id) ∧ w.cell? ⟨g, off + j * 3 + 1, none⟩ = some (.int .i64 p.lo) ∧ w.cell? ⟨g, off + j * 3 + 2, none⟩ = some (.int .i64 p.hi)
theorem Itms.fr {w w' : World} {X : Nat → Prop} {a : Option Addr} {L : List Itm} (h : Itms w a L) (hf : Fr w w' X) (hx : ∀ g off, a = some ⟨g, off, none⟩ → g < w.heap.size → ¬ X g) : Itms w' a L := by
  rcases h with h | ⟨g, off, rfl, hc⟩
  · exact .inl h
  · refine .inr ⟨g, off, rfl, fun j p hp => ?_⟩
    obtain ⟨h1, h2, h3⟩ := hc j p hp
    have hb : g < w.heap.size := World.block_lt_of_cell? w _ h1
    have e : ∀ o, w'.cell? ⟨g, o, none⟩ = w.cell? ⟨g, o, none⟩ := fun o => World.cell?_of_block (w := w) (hf.block g hb (hx g off rfl hb))
    exact ⟨by rw [e]; exact h1, by rw [e]; exact h2, by rw [e]; exact h3⟩
/-- A row of them, of the call's own. -/
def OwnT (w : World) (v : Value) (L : List Itm) : Prop := w.ownsRow 0 100 3 v L.length (encT L)
theorem OwnT.nil (w : World) : OwnT w (.slice none 0 0) [] := World.ownsRow_nil w 0 100 3
theorem OwnT.fr {w w' : World} {X : Nat → Prop} {v : Value} {L : List Itm} (h : OwnT w v L) (hf : Fr w w' X) (hx : ∀ k, v.ownBlock = some k → ¬ X k) : OwnT w' v L := ownsRow_fr h hf hx
theorem OwnT.shape {w : World} {v : Value} {L : List Itm} (h : OwnT w v L) : ∃ a c, v = .slice a L.length c ∧ L.length ≤ c ∧ (a = none → c = 0) ∧ c ≤ maxLen := by
  rcases h.2 with ⟨h1, h2⟩ | ⟨g, cap, cur, hv, _, _, hle, hmx, _⟩
  · exact ⟨none, 0, by rw [h1, h2], by omega, fun _ => rfl, Nat.zero_le _⟩
  · exact ⟨_, cap, hv, hle, by simp, hmx⟩
theorem OwnT.itms {w : World} {a : Option Addr} {n c : Nat} {L : List Itm} (h : OwnT w (.slice a n c) L) : L = [] ∧ a = none ∨ ∃ g, a = some ⟨g, 0, none⟩ ∧ ∀ (j : Nat) (p : Itm), L[j]? = some p → w.cell? ⟨g, j * 3, none⟩ = some (.int .i64 p.id) ∧ w.cell? ⟨g, j * 3 + 1, none⟩ = some (.int .i64 p.lo) ∧ w.cell? ⟨g, j * 3 + 2, none⟩ = some (.int .i64 p.hi) := by
  rcases h.2 with ⟨h1, h2⟩ | ⟨g, cap, cur, hv, _, hg, hle, _, hcs, htk⟩
  · simp only [Value.slice.injEq] at h1
    exact .inl ⟨List.eq_nil_of_length_eq_zero h2, h1.1⟩
  · simp only [Value.slice.injEq] at hv
    obtain ⟨rfl, rfl, rfl⟩ := hv
    refine .inr ⟨g, rfl, fun j p hp => ?_⟩
    have e : ∀ i, i < 3 → w.cell? ⟨g, j * 3 + i, none⟩ = (itc p)[i]? := by
      intro i hi
      have h3 := encT_get L j p hp i hi
      have hj := (List.getElem?_eq_some_iff.1 hp).1
      rw [cell_of_row _ _ _ _ _ _ hg, ← Array.getElem?_toList, ← h3, ← htk, List.getElem?_take, if_pos (by omega)]
    exact ⟨e 0 (by omega), e 1 (by omega), e 2 (by omega)⟩
theorem OwnT.at {w : World} {a : Option Addr} {n c : Nat} {L : List Itm} (h : OwnT w (.slice a n c) L) (j : Nat) (p : Itm) (hp : L[j]? = some p) : ∃ g, a = some ⟨g, 0, none⟩ ∧ w.cell? ⟨g, j * 3, none⟩ = some (.int .i64 p.id) ∧ w.cell? ⟨g, j * 3 + 1, none⟩ = some (.int .i64 p.lo) ∧ w.cell? ⟨g, j * 3 + 2, none⟩ = some (.int .i64 p.hi) := by
  rcases h.itms with ⟨h1, _⟩ | ⟨g, rfl, hc⟩
  · subst h1; simp at hp
  · exact ⟨g, rfl, hc j p hp⟩
theorem full100 : ∃ i, Try.prog.info? 100 = some i ∧ i.zero = some (.agg #[.int .i64 0, .int .i64 0, .int .i64 0]) ∧ i.size = 3 ∧ i.bytes = 24 := by
  have h0 : (Try.prog.info? 100).isSome = true := by kernel_rfl
  have h1 : (Try.prog.info? 100).bind (·.zero) = some (.agg #[.int .i64 0, .int .i64 0, .int .i64 0]) := by kernel_rfl
  have h2 : (Try.prog.info? 100).map (·.size) = some 3 := by kernel_rfl
  have h3 : (Try.prog.info? 100).map (·.bytes) = some 24 := by kernel_rfl
  obtain ⟨i, hi⟩ := Option.isSome_iff_exists.1 h0
  rw [hi] at h1 h2 h3
  exact ⟨i, hi, h1, Option.some.inj h2, Option.some.inj h3⟩
theorem itms_cells {w : World} {g off : Nat} {M : List Itm} (h : Itms w (some ⟨g, off, none⟩) M) : ∀ j u, (encT M)[j]? = some u → w.cell? ((⟨g, off, none⟩ : Addr).add j) = some u := by
  intro j u hu
  rw [Addr.add_mid]
  have hj : j < M.length * 3 := by have := (List.getElem?_eq_some_iff.1 hu).1; rw [length_encT] at this; exact this
  obtain ⟨p, hp⟩ : ∃ p, M[j / 3]? = some p := ⟨_, List.getElem?_eq_getElem (by omega)⟩
  rcases h with h | ⟨g', off', he, hc⟩
  · subst h; simp at hp
  · simp only [Option.some.injEq, Addr.mk.injEq, and_true] at he
    obtain ⟨rfl, rfl⟩ := he
    obtain ⟨h0, h1, h2⟩ := hc (j / 3) p hp
    have e := encT_get M (j / 3) p hp (j % 3) (Nat.mod_lt _ (by omega))
    rw [show j / 3 * 3 + j % 3 = j by omega, hu] at e
    have h3 : j % 3 = 0 ∨ j % 3 = 1 ∨ j % 3 = 2 := by omega
    rcases h3 with h3 | h3 | h3
    · rw [h3] at e
      rw [show off + j = off + j / 3 * 3 by omega, h0]
      exact e.symm
    · rw [h3] at e
      rw [show off + j = off + j / 3 * 3 + 1 by omega, h1]
      exact e.symm
    · rw [h3] at e
      rw [show off + j = off + j / 3 * 3 + 2 by omega, h2]
      exact e.symm
/-- Items go behind a row of the call's own. -/
theorem wpList_catT {w : World} {ops : Array Oper} {rest : List Oper} {o : Oper} {act : Act} {Q : Exit → Act → World → Prop} (hgd : o.guard = none) (s x : Operand)
    (ho : o.op = .call { callee := .builtin .append, args := #[s, x], argTypes := #[40, 40] }) (v : Value) (L : List Itm) (hs : act.eval s = v) (hown : OwnT w v L)
    (ax : Option Addr) (n cx : Nat) (M : List Itm) (hn : M.length = n) (hx : act.eval x = .slice ax n cx) (hm : Itms w ax M) (hc : ax = none → cx = 0) (hlen : L.length + n ≤ 4398046511104)
    (h : ∀ v' w', OwnT w' v' (L ++ M) → Fr w w' (fun k => v.ownBlock = some k) → Fresh w v v' → wpList Try.prog ops Q rest (act.put o.dst v') w') : wpList Try.prog ops Q (o :: rest) act w := by
  obtain ⟨i, hi, hz, hs9, hby⟩ := full100
  subst hn
  cases ax with
  | none =>
    have hM : M = [] := by rcases hm with h1 | ⟨_, _, h1, _⟩; exact h1; cases h1
    subst hM
    rw [hc rfl] at hx
    have hr := run_append_owned_none (P := Try.prog) w 0 40 o.type 100 i 3 Try.underlying40 hi v L.length (encT L) hown
    refine wpList_plain hgd fun _ hK => wp_append_to s x 40 ho _ rfl _ rfl _ _ hs hx _ _ hr (hK _ _ (h v w ?_ (Fr.refl _ _) (.inl rfl)))
    rw [List.append_nil]; exact hown
  | some z =>
    have key : ∀ j u, (encT M)[j]? = some u → w.cell? (z.add j) = some u := by
      rcases hm with h1 | ⟨g, off, e, hm⟩
      · subst h1; intro j u hu; simp [encT] at hu
      · injection e with e; subst e
        exact itms_cells (.inr ⟨g, off, rfl, hm⟩)
    obtain ⟨v', w', hr, q1, q2, q3⟩ := run_append_gen (P := Try.prog) w 40 o.type 100 i _ 3 24 Try.underlying40 hi hz hs9 hby rfl (by omega) v L.length (encT L) hown z M.length cx (encT M) (by rw [length_encT])
      key (encT_oneCell M) (by unfold maxLen; omega) (by omega)
    refine wpList_plain hgd fun _ hK => wp_append_to s x 40 ho _ rfl _ rfl _ _ hs hx _ _ hr (hK _ _ (h v' w' ?_ (Fr.grown q2) q3))
    unfold OwnT; rw [List.length_append, encT_append]; exact q1
theorem ownT_made (w : World) : OwnT (w.alloc (.cells #[] 100)) (.slice (some ⟨w.heap.size, 0, none⟩) 0 0) [] := World.ownsRow_made w #[] 0 (Nat.zero_le _) (by unfold maxLen; omega) rfl
theorem itms_new (w : World) (p : Itm) : Itms (w.alloc (.cells #[.int .i64 p.id, .int .i64 p.lo, .int .i64 p.hi] 100)) (some ⟨w.heap.size, 0, none⟩) [p] := by
  refine .inr ⟨_, 0, rfl, fun j q hq => ?_⟩
  cases j with
  | succ j => simp at hq
  | zero =>
    simp only [List.getElem?_cons_zero, Option.some.injEq] at hq
    subst hq
    exact ⟨(cell_of_row _ _ _ _ _ _ (heap_alloc_new w _)).trans rfl, (cell_of_row _ _ _ _ _ _ (heap_alloc_new w _)).trans rfl, (cell_of_row _ _ _ _ _ _ (heap_alloc_new w _)).trans rfl⟩
theorem without_eq {L : List Itm} (hI : Ids L) {k : Nat} {p : Itm} (hp : L[k]? = some p) : L.take k ++ L.drop (k + 1) = without L p.id := by
  induction L generalizing k with
  | nil => simp at hp
  | cons a L ih =>
    obtain ⟨h1, h2⟩ := List.pairwise_cons.1 hI
    cases k with
    | zero =>
      simp only [List.getElem?_cons_zero, Option.some.injEq] at hp
      subst hp
      unfold without
      rw [List.filter_cons_of_neg (by simp)]
      have : L.filter (fun q => decide (q.id ≠ a.id)) = L := List.filter_eq_self.2 (fun q hq => by simpa using (h1 q hq).symm)
      rw [this]; rfl
    | succ k =>
      simp only [List.getElem?_cons_succ] at hp
      have h3 := ih h2 hp
      have h4 := h1 p (List.mem_of_getElem? hp)
      unfold without at h3 ⊢
      rw [List.filter_cons_of_pos (by simpa using h4), List.take_succ_cons, List.drop_succ_cons, List.cons_append, h3]
end Go.Proofs.Ytanfbfmpppfbhaa

/- The document's list: Find, Add, Cut, Overlap. -/
namespace Go.Proofs.Ytanfbfmpppfbhaa
open Go.RowKit
set_option maxRecDepth 100000
set_option linter.unusedVariables false
set_option linter.unusedSimpArgs false

def FindR (L : List Itm) (id : Int) (w : World) (e : Ending) (w' : World) : Prop := w' = w ∧ ((∃ (k : Nat) (p : Itm), L[k]? = some p ∧ p.id = id ∧ e = .returned (.int .i64 (k : Int))) ∨ ((∀ q ∈ L, q.id ≠ id) ∧ e = .returned (.int .i64 (-1))))
set_option maxHeartbeats 1000000 in
theorem find_any' {w : World} {v : Value} {L : List Itm} (h : OwnT w v L) (id : Int) (hl : L.length ≤ 4398046511104) : Calls Try.prog 43 #[v, .int .i64 id] w (FindR L id w) := by
  obtain ⟨Q, hQ⟩ : ∃ Q, Q = FindR L id w := ⟨_, rfl⟩
  rw [← hQ]
  have HQQ := hide hQ
  have HT := hide h
  obtain ⟨a, c, rfl, _⟩ := h.shape
  obtain ⟨n, hn⟩ : ∃ n, n = L.length := ⟨_, rfl⟩
  rw [← hn] at HT hl ⊢
  have HN := hide hn
  clear h hQ hn
  go_enter Try.func43, Try.ntmps43
  go_wp2
  go_loopw [5] (fun i wr => ∃ k : Nat, i = .int .i64 (k : Int) ∧ k ≤ n ∧ (∀ q ∈ L.take k, q.id ≠ id) ∧ wr = w) (fun i _ => n - (intOf i).toNat)
  case atStart => exact ⟨0, rfl, Nat.zero_le _, by simp, rfl⟩
  case round =>
    obtain ⟨k, rfl, hk, hno, rfl⟩ := hrel
    have HNO := hide hno
    clear hno
    by_cases hlt : k < n
    · obtain ⟨p, hp⟩ : ∃ p, L[k]? = some p := ⟨_, List.getElem?_eq_getElem (by rw [← HN.out]; exact hlt)⟩
      obtain ⟨g, rfl, d0, d1, d2⟩ := HT.out.at k p hp
      have HP := hide hp
      clear hp d1 d2
      by_cases he : p.id = id
      · have hb : (p.id == id) = true := by simp [he]
        have HRES : Hid (∀ W, FindR L id W (.returned (.int .i64 (k : Int))) W) := hide (fun W => ⟨rfl, .inl ⟨k, p, HP.out, he, rfl⟩⟩)
        clear he
        go_wp2
        rw [HQQ.out]
        first | exact HRES.out _ | (go_ret; exact HRES.out _)
      · have hb : (p.id == id) = false := by simpa using he
        have HS : Hid (∀ q ∈ L.take (k + 1), q.id ≠ id) := hide (by
          rw [List.take_add_one, HP.out]
          intro q hq
          rcases List.mem_append.1 hq with hq | hq
          · exact HNO.out q hq
          · have : q = p := by simpa using hq
            rw [this]; exact he)
        clear he
        go_wp2
        go_roundw
        case rel => exact ⟨k + 1, by go_num, by omega, HS.out, by first | rfl | trivial⟩
        case measure => simp [intOf]; omega
    · obtain rfl : k = n := by omega
      have HRES : Hid (∀ W, FindR L id W (.returned (.int .i64 (-1))) W) := hide (fun W => ⟨rfl, .inr ⟨by
        have h := HNO.out
        rwa [List.take_of_length_le (by rw [HN.out]; exact Nat.le_refl _)] at h, rfl⟩⟩)
      go_wp2
      rw [HQQ.out]
      first | exact HRES.out _ | (go_ret; exact HRES.out _)
/-- What the document's Add leaves. -/
def RAddQ (w : World) (v : Value) (L : List Itm) (p : Itm) (e : Ending) (w' : World) : Prop :=
  Fr w w' (fun _ => False) ∧ ((rightB p.per = false ∧ e = .returned (.tuple #[v, .int .i64 40])) ∨
  (rightB p.per = true ∧ (∃ q ∈ L, q.id = p.id) ∧ e = .returned (.tuple #[v, .int .i64 90])) ∨
  (rightB p.per = true ∧ (∀ q ∈ L, q.id ≠ p.id) ∧ ∃ v', e = .returned (.tuple #[v', .int .i64 0]) ∧ OwnT w' v' (L ++ [p]) ∧ ∀ k, v'.ownBlock = some k → w.heap.size ≤ k))
set_option maxHeartbeats 4000000 in
theorem radd_any {w : World} {v : Value} {L : List Itm} (h : OwnT w v L) (id lo hi : Int) (hl : L.length ≤ 2199023255552) : Calls Try.prog 33 #[v, .int .i64 id, .agg #[.int .i64 lo, .int .i64 hi]] w (RAddQ w v L ⟨id, lo, hi⟩) := by
  obtain ⟨Q, hQ⟩ : ∃ Q, Q = RAddQ w v L ⟨id, lo, hi⟩ := ⟨_, rfl⟩
  rw [← hQ]
  have HQQ := hide hQ
  have HC := hide (right_any ⟨lo, hi⟩)
  obtain ⟨g, hg⟩ : ∃ g, g = w.heap.size := ⟨_, rfl⟩
  obtain ⟨w1, hw1⟩ : ∃ w1, w1 = w.alloc (.cells #[.int .i64 lo, .int .i64 hi] 23) := ⟨_, rfl⟩
  have f1 : Fr w w1 (fun _ => False) := by rw [hw1]; exact Fr.alloc w _ _
  have b1 : Two w1 g (.int .i64 lo) (.int .i64 hi) := by rw [hw1, hg]; exact two_of (heap_alloc_new w _)
  have HT := hide h
  obtain ⟨a, c, hv, _, hac, _⟩ := h.shape
  obtain ⟨n, hn⟩ : ∃ n, n = L.length := ⟨_, rfl⟩
  have hl' := hl
  rw [← hn] at hv hl
  subst hv
  have HAC := hide hac
  have HN := hide hn
  have HF1 := hide f1
  have HB1 := hide b1
  have HW := hide hw1
  have HG := hide hg
  have HL := hide hl'
  have c0 := b1.1
  have c1 := b1.2.1
  clear h hQ hn f1 b1 hw1 hg hac hl'
  unfold perV at HC
  go_enter Try.func33, Try.ntmps33
  go_wp2_with (rw [← HW.out, ← HG.out]; clear HW)
  refine (HC.out w1).mono ?_
  rintro e w2 ⟨rfl, f2⟩
  have HT2 := hide (HB1.out.fr f2 (fun h => h))
  have d0 := HT2.out.1
  have d1 := HT2.out.2.1
  have HF := hide ((HF1.out.trans f2).mono (Y := fun _ => False) (by simp))
  clear f2 c0 c1 HB1 HF1 HC
  by_cases hr : rightB ⟨lo, hi⟩ = true
  · rw [hr]
    have HR := hide hr
    have HFD := hide (find_any' (HT.out.fr HF.out (fun _ _ h => h)) id (by have := HL.out; omega))
    clear hr
    go_wp2_with fail
    refine HFD.out.mono ?_
    rintro e w3 ⟨hV, ⟨k, p, hk, hp, rfl⟩ | ⟨hno, rfl⟩⟩
    · obtain rfl := hV.symm
      have HRES : Hid (Q (.returned (.tuple #[.slice a n c, .int .i64 90])) w2) := hide (by
        rw [HQQ.out]
        exact ⟨HF.out, .inr (.inl ⟨HR.out, ⟨p, List.mem_of_getElem? hk, hp⟩, rfl⟩)⟩)
      clear hV hk hp HFD
      go_wp2
      first | exact HRES.out | (go_ret; exact HRES.out)
    · obtain rfl := hV.symm
      have HNO := hide hno
      clear hV hno HFD
      have HO2 := hide (HT.out.fr HF.out (fun _ _ h => h))
      have HI2 : Hid (Itms w2 a L) := hide (by
        rcases HO2.out.itms with ⟨h1, _⟩ | ⟨g, h1, h2⟩
        · exact .inl h1
        · exact .inr ⟨g, 0, h1, fun j p hp => by simpa using h2 j p hp⟩)
      go_wp2_with first | (refine wpList_catT rfl (.tmp 18) (.tmp 19) rfl _ [] rfl (ownT_made w2) a n c L HN.out.symm rfl (HI2.out.fr (Fr.alloc w2 _ (fun _ => False)) (fun _ _ _ _ h => h)) HAC.out (by simp only [List.length_nil]; omega) ?_; intro v3 W3 o3 f3 r3; have HO3 := hide o3; have HF3 := hide (((HF.out.trans (Fr.alloc w2 (.cells #[] 100) (fun _ => False))).trans f3).mono (Y := fun _ => False) (fun q hq h => by rcases h with (h | h) | h; exact h; exact h; (have h : some w2.heap.size = some q := h; injection h with h; have := HF.out.size; omega))); have HR3 := hide (show ∀ q, v3.ownBlock = some q → w.heap.size ≤ q from fun q hq => by rcases r3 with h1 | ⟨k, h1, h2⟩; (have h1 : v3.ownBlock = some w2.heap.size := h1; rw [hq] at h1; injection h1 with h1; have := HF.out.size; omega); (rw [hq] at h1; injection h1 with h1; have := HF.out.size; simp at h2; omega)); have HT3 := hide (HT2.out.fr (((Fr.alloc w2 (.cells #[] 100) (fun _ => False)).trans f3).mono (Y := fun k => k = w2.heap.size) (fun q hq h => by rcases h with h | h; exact h.elim; (have h : some w2.heap.size = some q := h; injection h with h; exact h.symm))) (fun h => by have := World.block_lt_of_cell? w2 _ HT2.out.1; simp at this; omega)); clear o3 f3 r3; have d0 := HT3.out.1; have d1 := HT3.out.2.1) | (refine wpList_catT rfl (.tmp 21) (.tmp 25) rfl v3 _ rfl (HO3.out.fr (Fr.alloc W3 _ (fun _ => False)) (fun _ _ h => h)) (some ⟨_, 0, none⟩) 1 1 [⟨id, lo, hi⟩] rfl rfl (itms_new W3 ⟨id, lo, hi⟩) (fun h => by cases h) (by rw [List.nil_append, ← HN.out]; omega) ?_; intro v4 W4 o4 f4 r4; have HO4 := hide o4; have HF4 := hide (((HF3.out.trans (Fr.alloc W3 (.cells #[.int .i64 id, .int .i64 lo, .int .i64 hi] 100) (fun _ => False))).trans f4).mono (Y := fun _ => False) (fun q hq h => by rcases h with (h | h) | h; exact h; exact h; (have := HR3.out q h; omega))); have HR4 := hide (show ∀ q, v4.ownBlock = some q → w.heap.size ≤ q from fun q hq => by rcases r4 with h1 | ⟨k, h1, h2⟩; exact HR3.out q (h1 ▸ hq); (rw [hq] at h1; injection h1 with h1; have := HF3.out.size; simp at h2; omega)); clear o4 f4 r4)
      have HRES : Hid (Q (.returned (.tuple #[v4, .int .i64 0])) W4) := hide (by
        rw [HQQ.out]
        exact ⟨HF4.out, .inr (.inr ⟨HR.out, HNO.out, v4, rfl, HO4.out, HR4.out⟩)⟩)
      first | exact HRES.out | (go_ret; exact HRES.out)
  · have hr' : rightB ⟨lo, hi⟩ = false := by simpa using hr
    have HRES : Hid (Q (.returned (.tuple #[.slice a n c, .int .i64 40])) w2) := hide (by
      rw [HQQ.out]
      exact ⟨HF.out, .inl ⟨hr', rfl⟩⟩)
    rw [hr']
    clear hr hr'
    go_wp2
    first | exact HRES.out | (go_ret; exact HRES.out)
end Go.Proofs.Ytanfbfmpppfbhaa
