/- The document's manager in memory. -/
import Derived.Test.YtiooacaplajidaaNh
namespace Go.Proofs.Ytiooacaplajidaa
open Go.RowKit
set_option maxRecDepth 100000
set_option linter.unusedVariables false
set_option linter.unusedSimpArgs false

/-- One of the document's rows: a number, a stamp, keys. -/
structure Rw where
  id : Int
  st : Int
  ka : Option Addr
  kn : Nat
  kc : Nat
  K : List ByteArray
def Rw.cells (x : Rw) : List Value := [.int .i64 x.id, .int .i64 x.st, .slice x.ka x.kn x.kc]
def encW (L : List Rw) : List Value := (L.map Rw.cells).flatten
theorem length_encW (L : List Rw) : (encW L).length = L.length * 3 := by
  induction L with
  | nil => rfl
  | cons x L ih => simp only [encW, List.map_cons, List.flatten_cons, List.length_append, List.length_cons] at *; simp only [Rw.cells, List.length_cons, List.length_nil]; omega
theorem encW_append (L M : List Rw) : encW (L ++ M) = encW L ++ encW M := by simp [encW]
theorem encW_get (L : List Rw) : ∀ i x, L[i]? = some x → ∀ j, j < 3 → (encW L)[i * 3 + j]? = x.cells[j]? := by
  induction L with
  | nil => intro i x h; simp at h
  | cons y L ih =>
    intro i x h j hj
    cases i with
    | zero =>
      simp only [List.getElem?_cons_zero, Option.some.injEq] at h
      subst h
      show (y.cells ++ encW L)[0 * 3 + j]? = _
      rw [List.getElem?_append_left (by simp [Rw.cells]; omega)]
      simp
    | succ i =>
      simp only [List.getElem?_cons_succ] at h
      show (y.cells ++ encW L)[(i + 1) * 3 + j]? = _
      rw [List.getElem?_append_right (by simp [Rw.cells]; omega)]
      rw [show (i + 1) * 3 + j - y.cells.length = i * 3 + j by simp [Rw.cells]; omega]
      exact ih i x h j hj
def KsAt (Q : Nat → Prop) (w : World) (x : Rw) : Prop := x.K.length = x.kn ∧ StrsIn Q w x.ka x.K ∧ (x.ka = none → x.kc = 0)
def RowW (e : TypeId) (Q : Nat → Prop) (w : World) (v : Value) (L : List Rw) : Prop := w.ownsRow 0 e 3 v L.length (encW L) ∧ (∀ k, v.ownBlock = some k → Q k) ∧ ∀ x ∈ L, KsAt Q w x
section
variable {Q Q' X : Nat → Prop} {w w' : World} {v : Value} {L : List Rw} {e : TypeId} {x : Rw}
theorem StrsIn.impB {a : Option Addr} {K : List ByteArray} (h : StrsIn Q w a K) (hx : ∀ k, k < w.heap.size → Q k → Q' k) : StrsIn Q' w a K := fun i x hi => by
  obtain ⟨g, off, h1, h2, h3, h4⟩ := h i x hi
  exact ⟨g, off, h1, hx g (World.block_lt_of_cell? w _ h3) h2, h3, h4⟩
theorem KsAt.fr (h : KsAt Q w x) (hf : Fr w w' X) (hx : ∀ k, Q k → ¬ X k) : KsAt Q w' x := ⟨h.1, h.2.1.fr hf hx, h.2.2⟩
theorem KsAt.imp (h : KsAt Q w x) (hx : ∀ k, k < w.heap.size → Q k → Q' k) : KsAt Q' w x := ⟨h.1, h.2.1.impB hx, h.2.2⟩
theorem RowW.fr (h : RowW e Q w v L) (hf : Fr w w' X) (hx : ∀ k, Q k → ¬ X k) : RowW e Q w' v L := ⟨ownsRow_fr h.1 hf (fun k hk => hx k (h.2.1 k hk)), h.2.1, fun x hm => (h.2.2 x hm).fr hf hx⟩
theorem RowW.imp (h : RowW e Q w v L) (hx : ∀ k, k < w.heap.size → Q k → Q' k) : RowW e Q' w v L := ⟨h.1, fun k hk => hx k (ownsRow_lt h.1 hk) (h.2.1 k hk), fun x hm => (h.2.2 x hm).imp hx⟩
theorem RowW.at {a : Option Addr} {n c i : Nat} (h : RowW e Q w (.slice a n c) L) (hi : L[i]? = some x) : ∃ g, a = some ⟨g, 0, none⟩ ∧ w.cell? ⟨g, i * 3, none⟩ = some (.int .i64 x.id) ∧ w.cell? ⟨g, i * 3 + 1, none⟩ = some (.int .i64 x.st) ∧ w.cell? ⟨g, i * 3 + 2, none⟩ = some (.slice x.ka x.kn x.kc) := by
  have hn : n = L.length := by obtain ⟨a', c', h1⟩ := shape_n h.1; cases h1; rfl
  subst hn
  have e := encW_get L i x hi
  obtain ⟨g, ha, c0⟩ := row_cell h.1 (i := i * 3) (u := .int .i64 x.id) (by have h0 := e 0 (by omega); rw [Nat.add_zero] at h0; rw [h0]; rfl)
  obtain ⟨g1, ha1, c1⟩ := row_cell h.1 (i := i * 3 + 1) (u := .int .i64 x.st) (by rw [e 1 (by omega)]; rfl)
  obtain ⟨g2, ha2, c2⟩ := row_cell h.1 (i := i * 3 + 2) (u := .slice x.ka x.kn x.kc) (by rw [e 2 (by omega)]; rfl)
  rw [ha] at ha1 ha2
  cases ha1
  cases ha2
  exact ⟨g, ha, c0, c1, c2⟩
end
/-- The document's manager: its numbers, what is active, what was done. -/
structure Dm where
  now : Int
  last : Int
  begun : Int
  aa : Option Addr
  ac : Nat
  A : List Rw
  ha : Option Addr
  hc : Nat
  H : List Rw
def Dm.agg (m : Dm) : Value := .agg #[.int .i64 m.now, .int .i64 m.last, .int .i64 m.begun, .slice m.aa m.A.length m.ac, .slice m.ha m.H.length m.hc]
def DM (Q : Nat → Prop) (w : World) (m : Dm) : Prop := RowW 49 Q w (.slice m.aa m.A.length m.ac) m.A ∧ RowW 89 Q w (.slice m.ha m.H.length m.hc) m.H
section
variable {Q Q' X : Nat → Prop} {w w' : World} {m : Dm}
theorem DM.fr (h : DM Q w m) (hf : Fr w w' X) (hx : ∀ k, Q k → ¬ X k) : DM Q w' m := ⟨h.1.fr hf hx, h.2.fr hf hx⟩
theorem DM.frF (h : DM Q w m) (hf : Fr w w' (fun _ => False)) : DM Q w' m := h.fr hf (fun _ _ h => h)
theorem DM.imp (h : DM Q w m) (hx : ∀ k, k < w.heap.size → Q k → Q' k) : DM Q' w m := ⟨h.1.imp hx, h.2.imp hx⟩
end
def BoxM (w : World) (g : Nat) (m : Dm) : Prop := w.heap[g]? = some (.cells #[.int .i64 m.now, .int .i64 m.last, .int .i64 m.begun, .slice m.aa m.A.length m.ac, .slice m.ha m.H.length m.hc] 29 (0, 0))
section
variable {X : Nat → Prop} {w w' : World} {m : Dm} {g : Nat}
theorem BoxM.fr (h : BoxM w g m) (hf : Fr w w' X) (hx : ¬ X g) : BoxM w' g m := by
  unfold BoxM at *
  rw [hf.block g (Array.getElem?_eq_some_iff.1 h).1 hx]
  exact h
theorem BoxM.cells (h : BoxM w g m) : w.cell? ⟨g, 0, none⟩ = some (.int .i64 m.now) ∧ w.cell? ⟨g, 1, none⟩ = some (.int .i64 m.last) ∧ w.cell? ⟨g, 2, none⟩ = some (.int .i64 m.begun) ∧ w.cell? ⟨g, 3, none⟩ = some (.slice m.aa m.A.length m.ac) ∧ w.cell? ⟨g, 4, none⟩ = some (.slice m.ha m.H.length m.hc) :=
  ⟨(cell_of_row _ _ _ _ _ _ h).trans rfl, (cell_of_row _ _ _ _ _ _ h).trans rfl, (cell_of_row _ _ _ _ _ _ h).trans rfl, (cell_of_row _ _ _ _ _ _ h).trans rfl, (cell_of_row _ _ _ _ _ _ h).trans rfl⟩
theorem BoxM.frozen (h : BoxM w g m) (j : Nat) : w.frozen? ⟨g, j, none⟩ = false := by unfold BoxM at h; simp [World.frozen?, h]
theorem BoxM.lt (h : BoxM w g m) : g < w.heap.size := (Array.getElem?_eq_some_iff.1 h).1
theorem BoxM.range (h : BoxM w g m) : w.rangeAt g 0 [.int .i64 m.now, .int .i64 m.last, .int .i64 m.begun, .slice m.aa m.A.length m.ac, .slice m.ha m.H.length m.hc] := fun j v hv => by
  obtain ⟨c0, c1, c2, c3, c4⟩ := h.cells
  match j, hv with
  | 0, hv => simp at hv; subst hv; exact c0
  | 1, hv => simp at hv; subst hv; exact c1
  | 2, hv => simp at hv; subst hv; exact c2
  | 3, hv => simp at hv; subst hv; exact c3
  | 4, hv => simp at hv; subst hv; exact c4
  | j + 5, hv => simp at hv
theorem results_m1 {fn : Func} {p : Tmp} (h : fn.results = #[.cell p 29]) (tmps : Array Value) (w : World) (g : Nat) {m : Dm} (ht : BoxM w g m) (hp : tmps.getD p undef = .pointer (some ⟨g, 0, none⟩)) :
    (results fn tmps).run Try.prog w = .ok m.agg w := by
  have hp' : tmps[p]?.getD undef = .pointer (some ⟨g, 0, none⟩) := by simpa using hp
  simp [results, h, hp', asAddr, Dm.agg, run_loadVar_mid (P := Try.prog) w g 0 29 _ _ ht.range Try.underlying29 rfl (by kernel_rfl)]
theorem results_m2 {fn : Func} {p q : Tmp} (h : fn.results = #[.cell p 29, .tmp q]) (tmps : Array Value) (w : World) (g : Nat) {m : Dm} (ht : BoxM w g m) (hp : tmps.getD p undef = .pointer (some ⟨g, 0, none⟩)) :
    (results fn tmps).run Try.prog w = .ok (.tuple #[m.agg, tmps.getD q undef]) w := by
  have hp' : tmps[p]?.getD undef = .pointer (some ⟨g, 0, none⟩) := by simpa using hp
  simp [results, h, hp', asAddr, Dm.agg, run_loadVar_mid (P := Try.prog) w g 0 29 _ _ ht.range Try.underlying29 rfl (by kernel_rfl)]
theorem results_m3 {fn : Func} {p q r : Tmp} (h : fn.results = #[.cell p 29, .tmp q, .tmp r]) (tmps : Array Value) (w : World) (g : Nat) {m : Dm} (ht : BoxM w g m) (hp : tmps.getD p undef = .pointer (some ⟨g, 0, none⟩)) :
    (results fn tmps).run Try.prog w = .ok (.tuple #[m.agg, tmps.getD q undef, tmps.getD r undef]) w := by
  have hp' : tmps[p]?.getD undef = .pointer (some ⟨g, 0, none⟩) := by simpa using hp
  simp [results, h, hp', asAddr, Dm.agg, run_loadVar_mid (P := Try.prog) w g 0 29 _ _ ht.range Try.underlying29 rfl (by kernel_rfl)]
end
/-- The numbers. -/
def zeroM : Dm := ⟨0, 0, 0, none, 0, [], none, 0, []⟩
/-- A box is stored anew. -/
theorem BoxM.put {w : World} {g : Nat} {m : Dm} (h : BoxM w g m) (n : Dm) : BoxM (((((w.setCell ⟨g, 0, none⟩ (.int .i64 n.now)).setCell ⟨g, 1, none⟩ (.int .i64 n.last)).setCell ⟨g, 2, none⟩ (.int .i64 n.begun)).setCell ⟨g, 3, none⟩ (.slice n.aa n.A.length n.ac)).setCell ⟨g, 4, none⟩ (.slice n.ha n.H.length n.hc)) g n := by
  unfold BoxM at h ⊢
  have h1 := heap_setCell_here w g 0 (.int .i64 n.now) _ 29 (0, 0) h
  have h2 := heap_setCell_here _ g 1 (.int .i64 n.last) _ 29 (0, 0) h1
  have h3 := heap_setCell_here _ g 2 (.int .i64 n.begun) _ 29 (0, 0) h2
  have h4 := heap_setCell_here _ g 3 (.slice n.aa n.A.length n.ac) _ 29 (0, 0) h3
  have h5 := heap_setCell_here _ g 4 (.slice n.ha n.H.length n.hc) _ 29 (0, 0) h4
  rw [h5]
  rfl
theorem Fr.set5 (w : World) (g a b c d e : Nat) (v1 v2 v3 v4 v5 : Value) : Fr w (((((w.setCell ⟨g, a, none⟩ v1).setCell ⟨g, b, none⟩ v2).setCell ⟨g, c, none⟩ v3).setCell ⟨g, d, none⟩ v4).setCell ⟨g, e, none⟩ v5) (fun k => k = g) :=
  (((((Fr.setCell w ⟨g, a, none⟩ v1).trans (Fr.setCell _ ⟨g, b, none⟩ v2)).trans (Fr.setCell _ ⟨g, c, none⟩ v3)).trans (Fr.setCell _ ⟨g, d, none⟩ v4)).trans (Fr.setCell _ ⟨g, e, none⟩ v5)).mono (fun k _ h => by
    rcases h with (((h | h) | h) | h) | h <;> exact h)
set_option maxHeartbeats 4000000 in
theorem find_ref {Q : Nat → Prop} {w : World} {m : Dm} (h : DM Q w m) (t : Int) (hnb : m.A.length ≤ 1048576) : Calls Try.prog 29 #[m.agg, .int .i64 t] w fun e w' => Fr w w' (fun _ => False) ∧ ((∃ (i : Nat) (x : Rw), m.A[i]? = some x ∧ x.id = t ∧ (∀ (j : Nat) (y : Rw), j < i → m.A[j]? = some y → y.id ≠ t) ∧ e = .returned (.int .i64 (i : Int))) ∨ ((∀ x ∈ m.A, x.id ≠ t) ∧ e = .returned (.int .i64 (-1)))) := by
  have F1 := Fr.alloc w (.cells #[.int .i64 m.now, .int .i64 m.last, .int .i64 m.begun, .slice m.aa m.A.length m.ac, .slice m.ha m.H.length m.hc] 29) (fun _ => False)
  have b1 : BoxM (w.alloc (.cells #[.int .i64 m.now, .int .i64 m.last, .int .i64 m.begun, .slice m.aa m.A.length m.ac, .slice m.ha m.H.length m.hc] 29)) w.heap.size m := heap_alloc_new w _
  have h1 := h.1.fr F1 (fun _ _ h => h)
  obtain ⟨c0, c1, c2, c3, c4⟩ := b1.cells
  unfold Dm.agg
  go_enter Try.func29, Try.ntmps29
  go_wp2_with fail
  generalize (w.alloc (.cells #[.int .i64 m.now, .int .i64 m.last, .int .i64 m.begun, .slice m.aa m.A.length m.ac, .slice m.ha m.H.length m.hc] 29)) = w1 at *
  generalize w.heap.size = g0 at *
  have HR := hide h1
  have HF := hide F1
  clear h h1 F1 b1 c0 c1 c2 c4
  generalize hn : m.A.length = n at *
  have HN := hide hn
  clear hn
  go_loopw [5] (fun ix wr => ∃ (j : Nat), j ≤ n ∧ ix = .int .i64 (j : Int) ∧ (∀ (k : Nat) (q : Rw), k < j → m.A[k]? = some q → q.id ≠ t) ∧ wr = w1) (fun ix _ => n - (intOf ix).toNat)
  case atStart => exact ⟨0, Nat.zero_le _, rfl, fun k q hk => by omega, rfl⟩
  case round =>
    rename World => Y
    obtain ⟨j, hj, rfl, hall, hY⟩ := hrel
    subst hY
    have HAL := hide hall
    clear hall
    rcases Nat.lt_or_ge j n with hlt | hge
    · obtain ⟨q, hq⟩ : ∃ q, m.A[j]? = some q := ⟨_, List.getElem?_eq_getElem (by rw [HN.out]; exact hlt)⟩
      obtain ⟨gl, ha, e0, _, _⟩ := RowW.at HR.out hq
      rw [ha] at c3
      have HQ := hide hq
      clear hq ha
      by_cases hgt : q.id = t
      · have hgtb : (q.id == t) = true := by simp [hgt]
        have HG := hide hgt
        clear hgt
        go_wp2
        go_ret
        exact ⟨HF.out, .inl ⟨j, q, HQ.out, HG.out, HAL.out, rfl⟩⟩
      · have hgtb : (q.id == t) = false := by simp [hgt]
        have HG := hide hgt
        clear hgt
        go_wp2
        go_roundw
        case rel => exact ⟨j + 1, by omega, by go_num, fun k z hk hz => by
          rcases Nat.lt_or_ge k j with h | h
          · exact HAL.out k z h hz
          · have : k = j := by omega
            subst this
            rw [HQ.out] at hz
            cases hz
            exact HG.out, by first | rfl | trivial⟩
        case measure => simp [intOf]; omega
    · have e1 : n = j := by omega
      subst e1
      have HNO : Hid (∀ q ∈ m.A, q.id ≠ t) := hide (fun q hq => by
        obtain ⟨k, hk, hk2⟩ := List.getElem_of_mem hq
        exact HAL.out k q (by rw [HN.out] at hk; exact hk) (by rw [List.getElem?_eq_getElem hk, hk2]))
      go_wp2
      go_ret
      exact ⟨HF.out, .inr ⟨HNO.out, rfl⟩⟩
end Go.Proofs.Ytiooacaplajidaa
