/- markAt and what entries come to, plainly. -/
import Derived.Test.YtcmabldfegcdaaaMf
namespace Go.Proofs.Ytcmabldfegcdaaa
open Go.RowKit
set_option maxRecDepth 100000
set_option linter.unusedVariables false
set_option linter.unusedSimpArgs false

theorem markAt_any {w : World} (ma : Option Addr) (mc : Nat) (M : List Int) (hM : ∀ k v, M[k]? = some v → ∃ g, ma = some ⟨g, 0, none⟩ ∧ w.cell? ⟨g, k, none⟩ = some (.int .i64 v)) (i : Nat) :
    Calls Try.prog 16 #[.slice ma M.length mc, .int .i64 (i : Int)] w fun e w' => e = .returned (.int .i64 (M.getD i 0)) ∧ w' = w := by
  by_cases hlt : i < M.length
  · obtain ⟨g, rfl, hc⟩ := hM i M[i] (List.getElem?_eq_getElem hlt)
    have hg : M.getD i 0 = M[i] := by simp [List.getD, hlt]
    rw [hg]
    obtain ⟨v, hv⟩ : ∃ v, v = M[i] := ⟨_, rfl⟩
    rw [← hv] at hc ⊢
    obtain ⟨m, hm⟩ : ∃ m, m = M.length := ⟨_, rfl⟩
    rw [← hm] at hlt ⊢
    clear hg hM hm hv
    go_enter Try.func16, Try.ntmps16
    go_wp2
    go_ret
    exact ⟨rfl, rfl⟩
  · have hg : M.getD i 0 = 0 := by simp [List.getD, List.getElem?_eq_none (Nat.le_of_not_lt hlt)]
    rw [hg]
    obtain ⟨m, hm⟩ : ∃ m, m = M.length := ⟨_, rfl⟩
    rw [← hm] at hlt ⊢
    clear hg hM hm
    go_enter Try.func16, Try.ntmps16
    go_wp2
    go_ret
    exact ⟨rfl, rfl⟩

/-- What was seen, plainly. -/
structure Sn where
  C : List Stp
  f : Int → Option Int
  fp : Int → Option Tch
def Sn.none : Sn := ⟨[], fun _ => .none, fun _ => .none⟩
def stepS (s : Sn) (e : Ent) (m : Int) : Sn :=
  if e.kind = 3 then ⟨if s.f e.txn = .none ∨ s.f e.txn = some 0 then s.C ++ [⟨e.txn, e.stamp⟩] else s.C, fun y => if y = e.txn then some ((s.f e.txn).getD 0 + 1) else s.f y, s.fp⟩
  else ⟨s.C, fun y => if y = e.txn then some ((s.f e.txn).getD 0) else s.f y, fun y => if y = e.page then some ⟨e.page, ((s.fp e.page).map Tch.first).getD m, m⟩ else s.fp y⟩
abbrev Er := Ent × Option Addr × Nat
def ecells (x : Er) : List Value := [.int .i64 x.1.kind, .int .i64 x.1.txn, .int .i64 x.1.page, .int .i64 x.1.slot, .int .i64 x.1.stamp, .slice x.2.1 x.1.data.length x.2.2]
def runS (M : List Int) (L : List Er) : Nat → Sn
  | 0 => .none
  | k + 1 => match L[k]? with
    | some x => stepS (runS M L k) x.1 (M.getD k 0)
    | .none => runS M L k
theorem length_stepS (s : Sn) (e : Ent) (m : Int) : (stepS s e m).C.length ≤ s.C.length + 1 := by
  unfold stepS
  split
  · simp only []
    split <;> simp
  · simp
theorem length_runS (M : List Int) (L : List Er) (k : Nat) : (runS M L k).C.length ≤ k := by
  induction k with
  | zero => simp [runS, Sn.none]
  | succ k ih =>
    unfold runS
    split
    · have := length_stepS (runS M L k) (by assumption : Er).1 (M.getD k 0); omega
    · omega
def EntsAt (w : World) (a : Option Addr) (L : List Er) : Prop := ∀ i x, L[i]? = some x → ∃ g, a = some ⟨g, 0, .none⟩ ∧ w.rangeAt g (i * 6) (ecells x)
theorem EntsAt.fr {w w' : World} {X : Nat → Prop} {a : Option Addr} {L : List Er} (h : EntsAt w a L) (hf : Fr w w' X) (hx : ∀ g, a = some ⟨g, 0, .none⟩ → ¬ X g) : EntsAt w' a L := by
  intro i x hi
  obtain ⟨g, hg, hr⟩ := h i x hi
  exact ⟨g, hg, rangeAt_fr hr hf (hx g hg)⟩
def MarksAt (w : World) (a : Option Addr) (M : List Int) : Prop := ∀ k v, M[k]? = some v → ∃ g, a = some ⟨g, 0, .none⟩ ∧ w.cell? ⟨g, k, .none⟩ = some (.int .i64 v)
theorem MarksAt.fr {w w' : World} {X : Nat → Prop} {a : Option Addr} {M : List Int} (h : MarksAt w a M) (hf : Fr w w' X) (hx : ∀ g, a = some ⟨g, 0, .none⟩ → ¬ X g) : MarksAt w' a M := by
  intro k v hk
  obtain ⟨g, hg, hr⟩ := h k v hk
  exact ⟨g, hg, by rw [World.cell?_of_block (w := w) (hf.block g (World.block_lt_of_cell? w _ hr) (hx g hg))]; exact hr⟩

theorem start_seen (w : World) (cs : Array Value) : SeenAt ((((w.alloc (.cells cs 27)).alloc (.map #[] 0)).alloc (.map #[] 0)).alloc (.cells #[.slice .none 0 0, .map (some (w.heap.size + 1)), .map (some (w.heap.size + 1 + 1))] 55)) (w.heap.size + 1 + 1 + 1) (w.heap.size + 1) (w.heap.size + 1 + 1) 0 (.slice .none 0 0) [] (fun _ => .none) (fun _ => .none) := by
  obtain ⟨A, hA⟩ : ∃ A, A = w.alloc (.cells cs 27) := ⟨_, rfl⟩
  have sA : A.heap.size = w.heap.size + 1 := by rw [hA]; simp
  rw [← hA, ← sA]
  have m1 := (map_new eInt A).fr (Fr.alloc (A.alloc (.map #[] 0)) (.map #[] 0) (fun _ => False)) (fun h => h)
  have m2 := map_new eTch (A.alloc (.map #[] 0))
  have sB : (A.alloc (.map #[] 0)).heap.size = A.heap.size + 1 := by simp
  have sD : ((A.alloc (.map #[] 0)).alloc (.map #[] 0)).heap.size = A.heap.size + 1 + 1 := by simp
  rw [sB] at m2
  have F := Fr.alloc ((A.alloc (.map #[] 0)).alloc (.map #[] 0)) (.cells #[.slice .none 0 0, .map (some A.heap.size), .map (some (A.heap.size + 1))] 55) (fun _ => False)
  have h := heap_alloc_new ((A.alloc (.map #[] 0)).alloc (.map #[] 0)) (.cells #[.slice .none 0 0, .map (some A.heap.size), .map (some (A.heap.size + 1))] 55)
  rw [sD] at h
  have m1 := m1.fr F (fun h => h)
  have m2 := m2.fr F (fun h => h)
  generalize ((A.alloc (.map #[] 0)).alloc (.map #[] 0)).alloc (.cells #[.slice .none 0 0, .map (some A.heap.size), .map (some (A.heap.size + 1))] 55) = W at *
  exact ⟨by rw [cell_of_row _ _ _ _ _ _ h]; rfl, by rw [cell_of_row _ _ _ _ _ _ h]; rfl, by rw [cell_of_row _ _ _ _ _ _ h]; rfl, fun j => by simp [World.frozen?, h], OwnC.nil _, m1, m2, ⟨by omega, by omega, by omega⟩, fun q hq => (by cases hq), fun x c hc => (by cases hc), fun x y hy => (by cases hy)⟩
/-- A Report's box. -/
structure Four (w : World) (rb : Nat) (x0 x1 x2 x3 : Value) : Prop where
  c0 : w.cell? ⟨rb, 0, .none⟩ = some x0
  c1 : w.cell? ⟨rb, 1, .none⟩ = some x1
  c2 : w.cell? ⟨rb, 2, .none⟩ = some x2
  c3 : w.cell? ⟨rb, 3, .none⟩ = some x3
  z : ∀ j, w.frozen? ⟨rb, j, .none⟩ = false
theorem four_of {w : World} {g : Nat} {x0 x1 x2 x3 : Value} {t : TypeId} (h : w.heap[g]? = some (.cells #[x0, x1, x2, x3] t (0, 0))) : Four w g x0 x1 x2 x3 := by
  refine ⟨?_, ?_, ?_, ?_, ?_⟩
  all_goals first | (rw [cell_of_row _ _ _ _ _ _ h]; rfl) | (intro j; simp [World.frozen?, h])
theorem Four.fr {w w' : World} {X : Nat → Prop} {g : Nat} {x0 x1 x2 x3 : Value} (h : Four w g x0 x1 x2 x3) (hf : Fr w w' X) (hx : ¬ X g) : Four w' g x0 x1 x2 x3 := by
  have hb := hf.block g (World.block_lt_of_cell? w _ h.c0) hx
  exact ⟨by rw [World.cell?_of_block (w := w) hb]; exact h.c0, by rw [World.cell?_of_block (w := w) hb]; exact h.c1, by rw [World.cell?_of_block (w := w) hb]; exact h.c2, by rw [World.cell?_of_block (w := w) hb]; exact h.c3, fun j => by rw [World.frozen?_of_block (w := w) hb]; exact h.z j⟩
def fill4 (w : World) (g : Nat) (x0 x1 x2 x3 : Value) : World := (((w.setCell ⟨g, 0, .none⟩ x0).setCell ⟨g, 1, .none⟩ x1).setCell ⟨g, 2, .none⟩ x2).setCell ⟨g, 3, .none⟩ x3
theorem Four.set0 {w : World} {g : Nat} {x0 x1 x2 x3 : Value} (h : Four w g x0 x1 x2 x3) (v : Value) : Four (w.setCell ⟨g, 0, .none⟩ v) g v x1 x2 x3 :=
  ⟨World.cell?_setCell_same _ _ _ h.c0, by rw [World.cell?_setCell_other _ _ _ _ (by simp)]; exact h.c1, by rw [World.cell?_setCell_other _ _ _ _ (by simp)]; exact h.c2, by rw [World.cell?_setCell_other _ _ _ _ (by simp)]; exact h.c3, fun j => by rw [World.frozen?_setCell]; exact h.z j⟩
theorem Four.set1 {w : World} {g : Nat} {x0 x1 x2 x3 : Value} (h : Four w g x0 x1 x2 x3) (v : Value) : Four (w.setCell ⟨g, 1, .none⟩ v) g x0 v x2 x3 :=
  ⟨by rw [World.cell?_setCell_other _ _ _ _ (by simp)]; exact h.c0, World.cell?_setCell_same _ _ _ h.c1, by rw [World.cell?_setCell_other _ _ _ _ (by simp)]; exact h.c2, by rw [World.cell?_setCell_other _ _ _ _ (by simp)]; exact h.c3, fun j => by rw [World.frozen?_setCell]; exact h.z j⟩
theorem Four.set2 {w : World} {g : Nat} {x0 x1 x2 x3 : Value} (h : Four w g x0 x1 x2 x3) (v : Value) : Four (w.setCell ⟨g, 2, .none⟩ v) g x0 x1 v x3 :=
  ⟨by rw [World.cell?_setCell_other _ _ _ _ (by simp)]; exact h.c0, by rw [World.cell?_setCell_other _ _ _ _ (by simp)]; exact h.c1, World.cell?_setCell_same _ _ _ h.c2, by rw [World.cell?_setCell_other _ _ _ _ (by simp)]; exact h.c3, fun j => by rw [World.frozen?_setCell]; exact h.z j⟩
theorem Four.set3 {w : World} {g : Nat} {x0 x1 x2 x3 : Value} (h : Four w g x0 x1 x2 x3) (v : Value) : Four (w.setCell ⟨g, 3, .none⟩ v) g x0 x1 x2 v :=
  ⟨by rw [World.cell?_setCell_other _ _ _ _ (by simp)]; exact h.c0, by rw [World.cell?_setCell_other _ _ _ _ (by simp)]; exact h.c1, by rw [World.cell?_setCell_other _ _ _ _ (by simp)]; exact h.c2, World.cell?_setCell_same _ _ _ h.c3, fun j => by rw [World.frozen?_setCell]; exact h.z j⟩
theorem Four.fill {w : World} {g : Nat} {y0 y1 y2 y3 : Value} (h : Four w g y0 y1 y2 y3) (x0 x1 x2 x3 : Value) : Four (fill4 w g x0 x1 x2 x3) g x0 x1 x2 x3 := (((h.set0 x0).set1 x1).set2 x2).set3 x3
theorem fill4_fr (w : World) (g : Nat) (x0 x1 x2 x3 : Value) : Fr w (fill4 w g x0 x1 x2 x3) (fun k => k = g) :=
  ((((Fr.setCell w ⟨g, 0, .none⟩ _).trans (Fr.setCell _ ⟨g, 1, .none⟩ _)).trans (Fr.setCell _ ⟨g, 2, .none⟩ _)).trans (Fr.setCell _ ⟨g, 3, .none⟩ _)).mono (fun q hq h => by rcases h with ((h | h) | h) | h <;> exact h)
theorem Four.range {w : World} {g : Nat} {x0 x1 x2 x3 : Value} (h : Four w g x0 x1 x2 x3) : w.rangeAt g 0 [x0, x1, x2, x3] := by
  intro j v hv
  match j, hv with
  | 0, hv => simp only [List.getElem?_cons_zero, Option.some.injEq] at hv; subst hv; exact h.c0
  | 1, hv => simp only [List.getElem?_cons_succ, List.getElem?_cons_zero, Option.some.injEq] at hv; subst hv; exact h.c1
  | 2, hv => simp only [List.getElem?_cons_succ, List.getElem?_cons_zero, Option.some.injEq] at hv; subst hv; exact h.c2
  | 3, hv => simp only [List.getElem?_cons_succ, List.getElem?_cons_zero, Option.some.injEq] at hv; subst hv; exact h.c3
theorem info27 : (Try.prog.info? 27).map (·.size) = some 4 := by kernel_rfl
theorem results_rep {fn : Func} {p : Tmp} (h : fn.results = #[.cell p 27]) (tmps : Array Value) (w : World) (g : Nat) {x0 x1 x2 x3 : Value} (ht : Four w g x0 x1 x2 x3) (hp : tmps.getD p undef = .pointer (some ⟨g, 0, .none⟩)) :
    (results fn tmps).run Try.prog w = .ok (.agg #[x0, x1, x2, x3]) w := by
  have hp' : tmps[p]?.getD undef = .pointer (some ⟨g, 0, .none⟩) := by simpa using hp
  simp [results, h, hp', asAddr, run_loadVar_mid (P := Try.prog) w g 0 27 [x0, x1, x2, x3] _ ht.range Try.underlying27 rfl info27]
theorem ownsRow_shape {w : World} {base : Nat} {e : TypeId} {size : Nat} {v : Value} {n : Nat} {xs : List Value} (h : w.ownsRow base e size v n xs) : ∃ a m c, v = .slice a m c := by
  rcases h.2 with ⟨rfl, h0⟩ | ⟨g, cap, cur, rfl, _⟩
  · exact ⟨_, _, _, rfl⟩
  · exact ⟨_, _, _, rfl⟩
theorem stepS_commit (s : Sn) (e : Ent) (m : Int) (h : e.kind = 3) : stepS s e m = ⟨if s.f e.txn = .none ∨ s.f e.txn = some 0 then s.C ++ [⟨e.txn, e.stamp⟩] else s.C, fun y => if y = e.txn then some ((s.f e.txn).getD 0 + 1) else s.f y, s.fp⟩ := if_pos h
theorem stepS_touch (s : Sn) (e : Ent) (m : Int) (h : ¬ e.kind = 3) : stepS s e m = ⟨s.C, fun y => if y = e.txn then some ((s.f e.txn).getD 0) else s.f y, fun y => if y = e.page then some ⟨e.page, ((s.fp e.page).map Tch.first).getD m, m⟩ else s.fp y⟩ := if_neg h
theorem make52 (W : World) : (Instr.makeMap 52 .none).run Try.prog W = .ok (.map (some W.heap.size)) (W.alloc (.map #[] 0)) := by kernel_rfl
theorem make53 (W : World) : (Instr.makeMap 53 .none).run Try.prog W = .ok (.map (some W.heap.size)) (W.alloc (.map #[] 0)) := by kernel_rfl
set_option maxHeartbeats 4000000 in
theorem analyse_any {w : World} (a ma : Option Addr) (c mc : Nat) (L : List Er) (M : List Int) (hL : EntsAt w a L) (hM : MarksAt w ma M) (hin : ∀ x ∈ L, In64 x.1.txn ∧ In64 x.1.page) (hn : L.length ≤ 2199023255552) :
    Calls Try.prog 6 #[.slice a L.length c, .slice ma M.length mc] w fun e w' => ∃ cv lv pv m Z T, e = .returned (.agg #[cv, lv, pv, .int .i64 m]) ∧ OwnC w' cv (runS M L L.length).C ∧ OwnI w' lv Z ∧ OwnT w' pv T
      ∧ Z.Pairwise (· < ·) ∧ (∀ x, x ∈ Z ↔ In64 x ∧ (runS M L L.length).f x = some 0)
      ∧ T.Pairwise (fun x y => x.page < y.page) ∧ (∀ y, y ∈ T ↔ In64 y.page ∧ (runS M L L.length).fp y.page = some y)
      ∧ 0 ≤ m ∧ (∀ x, In64 x → ((runS M L L.length).f x).isSome = true → x ≤ m) ∧ (m = 0 ∨ (In64 m ∧ ((runS M L L.length).f m).isSome = true))
      ∧ (∀ q, cv.ownBlock = some q → w.heap.size ≤ q) ∧ (∀ q, lv.ownBlock = some q → w.heap.size ≤ q) ∧ (∀ q, pv.ownBlock = some q → w.heap.size ≤ q) ∧ Fr w w' (fun _ => False) := by
  have HL := hide hL
  have HM := hide hM
  have HIN := hide hin
  clear hL hM hin
  obtain ⟨n, hln⟩ : ∃ n, n = L.length := ⟨_, rfl⟩
  obtain ⟨mn, hmn⟩ : ∃ mn, mn = M.length := ⟨_, rfl⟩
  rw [← hln, ← hmn]
  have HMN := hide hmn
  have HLN := hide hln
  rw [← hln] at hn
  clear hln hmn
  have m52 := make52
  have m53 := make53
  go_enter Try.func6, Try.ntmps6
  go_wp2_with fail
  clear m52 m53
  have HS0 := hide (start_seen w #[.slice .none 0 0, .slice .none 0 0, .slice .none 0 0, .int .i64 0])
  have H40 := hide (((((four_of (heap_alloc_new w (.cells #[.slice .none 0 0, .slice .none 0 0, .slice .none 0 0, .int .i64 0] 27))).fr (Fr.alloc (w.alloc (.cells #[.slice .none 0 0, .slice .none 0 0, .slice .none 0 0, .int .i64 0] 27)) (.map #[] 0) (fun _ => False)) (fun h => h)).fr (Fr.alloc ((w.alloc (.cells #[.slice .none 0 0, .slice .none 0 0, .slice .none 0 0, .int .i64 0] 27)).alloc (.map #[] 0)) (.map #[] 0) (fun _ => False)) (fun h => h)).fr (Fr.alloc (((w.alloc (.cells #[.slice .none 0 0, .slice .none 0 0, .slice .none 0 0, .int .i64 0] 27)).alloc (.map #[] 0)).alloc (.map #[] 0)) (.cells #[.slice .none 0 0, .map (some (w.heap.size + 1)), .map (some (w.heap.size + 1 + 1))] 55) (fun _ => False)) (fun h => h)))
  have HF0 := hide ((((Fr.alloc w (.cells #[.slice .none 0 0, .slice .none 0 0, .slice .none 0 0, .int .i64 0] 27) (fun _ => False)).trans (Fr.alloc (w.alloc (.cells #[.slice .none 0 0, .slice .none 0 0, .slice .none 0 0, .int .i64 0] 27)) (.map #[] 0) (fun _ => False))).trans (Fr.alloc ((w.alloc (.cells #[.slice .none 0 0, .slice .none 0 0, .slice .none 0 0, .int .i64 0] 27)).alloc (.map #[] 0)) (.map #[] 0) (fun _ => False))).trans (Fr.alloc (((w.alloc (.cells #[.slice .none 0 0, .slice .none 0 0, .slice .none 0 0, .int .i64 0] 27)).alloc (.map #[] 0)).alloc (.map #[] 0)) (.cells #[.slice .none 0 0, .map (some (w.heap.size + 1)), .map (some (w.heap.size + 1 + 1))] 55) (fun _ => False)) |>.mono (Y := fun _ => False) (by intro k _ h; simp at h))
  obtain ⟨sb, hsb⟩ : ∃ sb, sb = w.heap.size + 1 + 1 + 1 := ⟨_, rfl⟩
  obtain ⟨gp, hgp⟩ : ∃ gp, gp = w.heap.size + 1 + 1 := ⟨_, rfl⟩
  obtain ⟨gt, hgt⟩ : ∃ gt, gt = w.heap.size + 1 := ⟨_, rfl⟩
  obtain ⟨rb, hrb⟩ : ∃ rb, rb = w.heap.size := ⟨_, rfl⟩
  have HB : Hid (rb = w.heap.size ∧ gt = w.heap.size + 1 ∧ gp = w.heap.size + 1 + 1 ∧ sb = w.heap.size + 1 + 1 + 1) := hide ⟨hrb, hgt, hgp, hsb⟩
  obtain ⟨W0, hW0⟩ : ∃ W0, W0 = ((((w.alloc (.cells #[.slice .none 0 0, .slice .none 0 0, .slice .none 0 0, .int .i64 0] 27)).alloc (.map #[] 0)).alloc (.map #[] 0)).alloc (.cells #[.slice .none 0 0, .map (some (w.heap.size + 1)), .map (some (w.heap.size + 1 + 1))] 55)) := ⟨_, rfl⟩
  rw [← hW0] at HS0 H40 HF0 ⊢
  rw [← hsb, ← hgp, ← hgt] at HS0
  rw [← hrb] at H40
  first | rw [← hsb] | skip
  first | rw [← hgp] | skip
  first | rw [← hgt] | skip
  first | rw [← hrb] | skip
  clear hW0 hsb hgp hgt hrb
  go_loopw [13] (fun i wr => ∃ (k N : Nat) (cv : Value), k ≤ n ∧ i = .int .i64 (k : Int) ∧ k ≤ N ∧ N ≤ 2 * k ∧ SeenAt wr sb gt gp N cv (runS M L k).C (runS M L k).f (runS M L k).fp ∧ (∀ q, cv.ownBlock = some q → rb < q) ∧ Four wr rb (.slice .none 0 0) (.slice .none 0 0) (.slice .none 0 0) (.int .i64 0) ∧ Fr w wr (fun _ => False)) (fun i _ => n - (intOf i).toNat)
  case atStart => exact ⟨0, 0, _, Nat.zero_le _, rfl, Nat.le_refl _, Nat.le_refl _, HS0.out, fun q hq => (by cases hq), H40.out, HF0.out⟩
  case round =>
    obtain ⟨k, N, cv, hk, rfl, hkN, hN, hs, hcv, hr4, hfr⟩ := hrel
    have HSr := hide hs
    have HCV := hide hcv
    have H4r := hide hr4
    have HFr := hide hfr
    clear hs hcv hr4 hfr
    rcases Nat.lt_or_ge k n with hlt | hge
    · have hlt2 : k < L.length := by have := HLN.out; omega
      obtain ⟨x, hx⟩ : ∃ x, L[k]? = some x := ⟨_, List.getElem?_eq_getElem hlt2⟩
      obtain ⟨g, hag, hrow⟩ := HL.out k x hx
      have hrow := rangeAt_fr hrow HFr.out (fun h => h)
      have HI := hide (HIN.out x (List.mem_of_getElem? hx))
      have HX := hide hx
      obtain ⟨e, ea, ec⟩ := x
      have x0 := hrow 0 _ rfl
      have x1 := hrow 1 _ rfl
      have x2 := hrow 2 _ rfl
      have x3 := hrow 3 _ rfl
      have x4 := hrow 4 _ rfl
      have x5 := hrow 5 _ rfl
      simp only [Nat.add_zero] at x0 x1 x2 x3 x4 x5
      have HAG := hide hag
      rw [hag]
      clear hx hrow hlt2 hag
      have HRS : Hid (runS M L (k + 1) = stepS (runS M L k) e (M.getD k 0)) := hide (by simp only [runS, HX.out])
      have HLE := hide (length_runS M L k)
      by_cases he : e.kind = 3
      · obtain ⟨ca, cc, hcv⟩ := HSr.out.com.shape
        subst hcv
        go_wp2_with fail
        have FA := Fr.alloc wr (.cells #[.int .i64 3, .int .i64 e.txn, .int .i64 e.page, .int .i64 e.slot, .int .i64 e.stamp, .slice ea e.data.length ec] 31) (fun _ => False)
        have HS1 := hide (HSr.out.fr FA)
        have H41 := hide (H4r.out.fr FA (fun h => h))
        have HF1 := hide ((HFr.out.trans FA).mono (Y := fun _ => False) (by intro k _ h; simp at h))
        clear FA HSr H4r HFr x0 x1 x2 x3 x4 x5
        generalize wr.alloc (.cells #[.int .i64 3, .int .i64 e.txn, .int .i64 e.page, .int .i64 e.slot, .int .i64 e.stamp, .slice ea e.data.length ec] 31) = W1 at *
        have hcom := commit_any HS1.out e ea ec HI.out.1 (by omega) (by have := HLE.out; omega)
        rw [show entV e ea ec = .agg #[.int .i64 3, .int .i64 e.txn, .int .i64 e.page, .int .i64 e.slot, .int .i64 e.stamp, .slice ea e.data.length ec] by unfold entV; rw [he]] at hcom
        refine hcom.mono ?_
        clear hcom
        rintro x W2 ⟨rfl, cv', hs2, hown2, hf2⟩
        have HS2 : Hid (SeenAt W2 sb gt gp (N + 1) cv' (runS M L (k + 1)).C (runS M L (k + 1)).f (runS M L (k + 1)).fp) := hide (by rw [HRS.out, stepS_commit _ _ _ he]; exact hs2)
        have HO2 : Hid (∀ q, cv'.ownBlock = some q → rb < q) := hide (by intro q hq; rcases hown2 q hq with h | h; exact HCV.out q h; have h1 := HS1.out.lt; have h2 := HB.out; omega)
        have H42 := hide (H41.out.fr hf2 (by intro h; have h2 := HB.out; rcases h with h | h | h | h; omega; omega; omega; have h3 := HCV.out _ h; omega))
        have HF2 := hide ((HF1.out.trans hf2).mono (Y := fun _ => False) (by intro k hk h; have h2 := HB.out; rcases h with h | h | h | h | h; exact h; omega; omega; omega; have h3 := HCV.out _ h; omega))
        clear hs2 hown2 hf2 HS1 H41 HF1
        go_wp2
        go_roundw
        case rel => exact ⟨k + 1, _, cv', by omega, by go_num, by omega, by omega, HS2.out, HO2.out, H42.out, HF2.out⟩
        case measure => simp [intOf]; omega
      · go_wp2_with fail
        obtain ⟨eb, heb⟩ : ∃ eb, eb = wr.heap.size := ⟨_, rfl⟩
        rw [← heb]
        have FA := Fr.alloc wr (.cells #[.int .i64 e.kind, .int .i64 e.txn, .int .i64 e.page, .int .i64 e.slot, .int .i64 e.stamp, .slice ea e.data.length ec] 31) (fun _ => False)
        have HS1 := hide (HSr.out.fr FA)
        have H41 := hide (H4r.out.fr FA (fun h => h))
        have HF1 := hide ((HFr.out.trans FA).mono (Y := fun _ => False) (by intro k _ h; simp at h))
        have H61 := hide (six_of (heap_alloc_new wr (.cells #[.int .i64 e.kind, .int .i64 e.txn, .int .i64 e.page, .int .i64 e.slot, .int .i64 e.stamp, .slice ea e.data.length ec] 31)))
        rw [← heb] at H61
        clear FA HSr H4r HFr x0 x1 x2 x3 x4 x5 heb
        generalize wr.alloc (.cells #[.int .i64 e.kind, .int .i64 e.txn, .int .i64 e.page, .int .i64 e.slot, .int .i64 e.stamp, .slice ea e.data.length ec] 31) = W1 at *
        refine wp_region_K (fun q => decide (q ≠ 4)) (fun V : World => Six V eb (.int .i64 e.kind) (.int .i64 e.txn) (.int .i64 e.page) (.int .i64 e.slot) (.int .i64 e.stamp) (.slice ea e.data.length ec)) (by kernel_rfl) ?_
        have FD := Fr.drew W1 (fun _ => False)
        have HSd := hide (HS1.out.fr FD)
        have H4d := hide (H41.out.fr FD (fun h => h))
        have HFd := hide ((HF1.out.trans FD).mono (Y := fun _ => False) (by intro k _ h; simp at h))
        have H6d := hide (H61.out.fr FD (fun h => h))
        clear FD HS1 H41 HF1 H61
        generalize W1.drew = Wd at *
        have hS : (fun V : World => Six V eb (.int .i64 e.kind) (.int .i64 e.txn) (.int .i64 e.page) (.int .i64 e.slot) (.int .i64 e.stamp) (.slice ea e.data.length ec)) Wd := H6d.out
        have HMK := hide (markAt_any (w := Wd) ma mc M (HM.out.fr HFd.out (fun _ _ h => h)) k)
        obtain ⟨mk, hmk⟩ : ∃ mk, mk = M.getD k 0 := ⟨_, rfl⟩
        rw [← hmk] at HMK HRS
        rw [← HMN.out] at HMK
        clear hmk
        refine wpAnyK_takeTo 0 (some 23) (.agg #[.int .i64 e.kind, .int .i64 e.txn, .int .i64 e.page, .int .i64 e.slot, .int .i64 e.stamp, .slice ea e.data.length ec]) [4] rfl rfl (by kernel_rfl) (by kernel_rfl) (by kernel_rfl) (by kernel_rfl) (fun _ _ _ h => h) hS (Or.inl ⟨rfl, fun w1 hw1 => by have y0 := hw1.c0; have y1 := hw1.c1; have y2 := hw1.c2; have y3 := hw1.c3; have y4 := hw1.c4; have y5 := hw1.c5; clear hw1; go_simp⟩) ?_
        simp only [Act.put, List.setIfInBounds_toArray, List.set_cons_zero, List.set_cons_succ]
        refine wpAnyK_takeTo 1 (some 24) (.slice ma mn mc) [3, 4] rfl rfl (by kernel_rfl) (by kernel_rfl) (by kernel_rfl) (by kernel_rfl) (fun _ _ _ h => h) hS (Or.inl ⟨rfl, fun w1 hw1 => by go_simp⟩) ?_
        simp only [Act.put, List.setIfInBounds_toArray, List.set_cons_zero, List.set_cons_succ]
        refine wpAnyK_takeTo 2 (some 25) (.int .i64 (k : Int)) [3, 4] rfl rfl (by kernel_rfl) (by kernel_rfl) (by kernel_rfl) (by kernel_rfl) (fun _ _ _ h => h) hS (Or.inl ⟨rfl, fun w1 hw1 => by go_simp⟩) ?_
        simp only [Act.put, List.setIfInBounds_toArray, List.set_cons_zero, List.set_cons_succ]
        refine wpAnyK_one (i := 3) (by kernel_rfl) rfl rfl ?_
        refine wp_call_to (some 26) rfl 16 #[.slice ma mn mc, .int .i64 (k : Int)] (by go_simp) (HMK.out) ?_
        rintro x V ⟨rfl, hV⟩
        obtain rfl := hV.symm
        refine ⟨_, rfl, fun _ => hS, ?_⟩
        clear hV
        simp only [Act.put, List.setIfInBounds_toArray, List.set_cons_zero, List.set_cons_succ]
        have HTC := hide (touch_any HSd.out e ea ec HI.out.1 HI.out.2 mk (by omega))
        refine wpAnyK_one (i := 4) (by kernel_rfl) rfl rfl ?_
        refine wp_call_to (some 27) rfl 15 #[.pointer (some ⟨sb, 0, none⟩), .agg #[.int .i64 e.kind, .int .i64 e.txn, .int .i64 e.page, .int .i64 e.slot, .int .i64 e.stamp, .slice ea e.data.length ec], .int .i64 mk] (by go_simp) (HTC.out) ?_
        rintro x W2 ⟨rfl, hs2, hf2⟩
        refine ⟨_, rfl, fun h => (by cases h), ?_⟩
        simp only [Act.put, List.setIfInBounds_toArray, List.set_cons_zero, List.set_cons_succ]
        refine wpAnyK_done (by kernel_rfl) ?_ _
        have HS2 : Hid (SeenAt W2 sb gt gp (N + 1 + 1) cv (runS M L (k + 1)).C (runS M L (k + 1)).f (runS M L (k + 1)).fp) := hide (by rw [HRS.out, stepS_touch _ _ _ he]; exact hs2)
        have H42 := hide (H4d.out.fr hf2 (by intro h; have h2 := HB.out; rcases h with h | h <;> omega))
        have HF2 := hide ((HFd.out.trans hf2).mono (Y := fun _ => False) (by intro k hk h; have h2 := HB.out; rcases h with h | h | h; exact h; omega; omega))
        clear hs2 hf2 HTC HMK HSd H4d HFd H6d hS
        go_wp2
        go_roundw
        case rel => exact ⟨k + 1, _, cv, by omega, by go_num, by omega, by omega, HS2.out, HCV.out, H42.out, HF2.out⟩
        case measure => simp [intOf]; omega
    · have e1 : k = n := by omega
      subst e1
      obtain ⟨ca, cc, hcv⟩ := HSr.out.com.shape
      subst hcv
      obtain ⟨cl, hcl⟩ : ∃ cl, cl = (runS M L k).C.length := ⟨_, rfl⟩
      rw [← hcl] at HSr HCV
      clear hcl
      obtain ⟨R, hR⟩ : ∃ R, R = runS M L k := ⟨_, rfl⟩
      rw [← hR] at HSr
      go_wp2_with fail
      refine wp_region_K (fun q => decide (q ≠ 6)) (fun V : World => V.cell? ⟨sb, 0, none⟩ = some (.slice ca cl cc) ∧ V.cell? ⟨sb, 1, none⟩ = some (.map (some gt)) ∧ V.cell? ⟨sb, 2, none⟩ = some (.map (some gp))) (by kernel_rfl) ?_
      have FD := Fr.drew wr (fun _ => False)
      have HSd := hide (HSr.out.fr FD)
      have H4d := hide (H4r.out.fr FD (fun h => h))
      have HFd := hide ((HFr.out.trans FD).mono (Y := fun _ => False) (by intro k _ h; simp at h))
      clear HSr H4r HFr 
      clear FD
      generalize wr.drew = Wd at *
      have hS : (fun V : World => V.cell? ⟨sb, 0, none⟩ = some (.slice ca cl cc) ∧ V.cell? ⟨sb, 1, none⟩ = some (.map (some gt)) ∧ V.cell? ⟨sb, 2, none⟩ = some (.map (some gp))) Wd := ⟨HSd.out.c0, HSd.out.c1, HSd.out.c2⟩
      refine wpAnyK_takeTo 0 (some 29) (.pointer (some ⟨sb, 0, none⟩)) [6] rfl rfl (by kernel_rfl) (by kernel_rfl) (by kernel_rfl) (by kernel_rfl) (fun _ _ _ h => h) hS (Or.inl ⟨rfl, fun w1 hw1 => by go_simp⟩) ?_
      simp only [Act.put, List.setIfInBounds_toArray, List.set_cons_zero, List.set_cons_succ]
      refine wpAnyK_takeTo 1 (some 30) (.slice ca cl cc) [6] rfl rfl (by kernel_rfl) (by kernel_rfl) (by kernel_rfl) (by kernel_rfl) (fun _ _ _ h => h) hS (Or.inl ⟨rfl, fun w1 hw1 => by obtain ⟨x1, x2, x3⟩ := hw1; go_simp⟩) ?_
      simp only [Act.put, List.setIfInBounds_toArray, List.set_cons_zero, List.set_cons_succ]
      refine wpAnyK_one (i := 2) (by kernel_rfl) rfl rfl ?_
      refine wp_call_to (some 31) rfl 17 #[.pointer (some ⟨sb, 0, none⟩)] (by go_simp) (losers_any HSd.out.c1 HSd.out.txn (by omega)) ?_
      rintro x V1 ⟨lv, Z, rfl, z1, z2, z3, z4, z5⟩
      have HZ1 := hide z1
      have HZ2 := hide (And.intro z2 (And.intro z3 z4))
      have HSZ1 := hide (HFd.out.size)
      have HLTD := hide HSd.out.lt
      have HS1 := hide (HSd.out.fr z5)
      have H41 := hide (H4d.out.fr z5 (fun h => h))
      have HF1 := hide ((HFd.out.trans z5).mono (Y := fun _ => False) (by intro k _ h; simp at h))
      clear HSd H4d HFd 
      clear hS z1 z2 z3 z4 z5
      have hS : (fun V : World => V.cell? ⟨sb, 0, none⟩ = some (.slice ca cl cc) ∧ V.cell? ⟨sb, 1, none⟩ = some (.map (some gt)) ∧ V.cell? ⟨sb, 2, none⟩ = some (.map (some gp))) V1 := ⟨HS1.out.c0, HS1.out.c1, HS1.out.c2⟩
      refine ⟨_, rfl, fun _ => hS, ?_⟩
      simp only [Act.put, List.setIfInBounds_toArray, List.set_cons_zero, List.set_cons_succ]
      refine wpAnyK_one (i := 3) (by kernel_rfl) rfl rfl ?_
      refine wp_call_to (some 32) rfl 18 #[.pointer (some ⟨sb, 0, none⟩)] (by go_simp) (touched_any HS1.out.c2 HS1.out.pgs (by omega) HS1.out.pg) ?_
      rintro x V2 ⟨pv, T, rfl, z1, z2, z3, z4, z5⟩
      have HT2 := hide z1
      have HTT := hide (And.intro z2 (And.intro z3 z4))
      have HSZ2 := hide (HF1.out.size)
      have HLT1 := hide HS1.out.lt
      have HS2 := hide (HS1.out.fr z5)
      have H42 := hide (H41.out.fr z5 (fun h => h))
      have HF2 := hide ((HF1.out.trans z5).mono (Y := fun _ => False) (by intro k _ h; simp at h))
      have HZ2 := hide (HZ1.out.fr z5 (fun _ _ h => h))
      clear HS1 H41 HF1 HZ1
      clear hS z1 z2 z3 z4 z5
      have hS : (fun V : World => V.cell? ⟨sb, 0, none⟩ = some (.slice ca cl cc) ∧ V.cell? ⟨sb, 1, none⟩ = some (.map (some gt)) ∧ V.cell? ⟨sb, 2, none⟩ = some (.map (some gp))) V2 := ⟨HS2.out.c0, HS2.out.c1, HS2.out.c2⟩
      refine ⟨_, rfl, fun _ => hS, ?_⟩
      simp only [Act.put, List.setIfInBounds_toArray, List.set_cons_zero, List.set_cons_succ]
      refine wpAnyK_one (i := 4) (by kernel_rfl) rfl rfl ?_
      refine wp_call_to (some 33) rfl 19 #[.pointer (some ⟨sb, 0, none⟩)] (by go_simp) (last_any HS2.out.c1 HS2.out.txn) ?_
      rintro x V3 ⟨m, rfl, z1, z2, z3, z5⟩
      have HMM := hide (And.intro z1 (And.intro z2 z3))
      have HS3 := hide (HS2.out.fr z5)
      have H43 := hide (H42.out.fr z5 (fun h => h))
      have HF3 := hide ((HF2.out.trans z5).mono (Y := fun _ => False) (by intro k _ h; simp at h))
      have HZ3 := hide (HZ2.out.fr z5 (fun _ _ h => h))
      have HT3 := hide (HT2.out.fr z5 (fun _ _ h => h))
      clear HS2 H42 HF2 HZ2 HT2
      clear hS z1 z2 z3 z5
      have hS : (fun V : World => V.cell? ⟨sb, 0, none⟩ = some (.slice ca cl cc) ∧ V.cell? ⟨sb, 1, none⟩ = some (.map (some gt)) ∧ V.cell? ⟨sb, 2, none⟩ = some (.map (some gp))) V3 := ⟨HS3.out.c0, HS3.out.c1, HS3.out.c2⟩
      refine ⟨_, rfl, fun _ => hS, ?_⟩
      simp only [Act.put, List.setIfInBounds_toArray, List.set_cons_zero, List.set_cons_succ]
      obtain ⟨la, lm, lc, hlv⟩ := ownsRow_shape HZ3.out
      obtain ⟨pa, pm, pc, hpv⟩ := ownsRow_shape HT3.out
      subst hlv
      subst hpv
      refine wpAnyK_takeTo 5 (some 34) (.agg #[.slice ca cl cc, .slice la lm lc, .slice pa pm pc, .int .i64 m]) [6] rfl rfl (by kernel_rfl) (by kernel_rfl) (by kernel_rfl) (by kernel_rfl) (fun _ _ _ h => h) hS (Or.inl ⟨rfl, fun w1 hw1 => by go_simp⟩) ?_
      simp only [Act.put, List.setIfInBounds_toArray, List.set_cons_zero, List.set_cons_succ]
      have FF := fill4_fr V3 rb (.slice ca cl cc) (.slice la lm lc) (.slice pa pm pc) (.int .i64 m)
      have H44 := hide (H43.out.fill (.slice ca cl cc) (.slice la lm lc) (.slice pa pm pc) (.int .i64 m))
      have HC4 := hide (HS3.out.com.fr FF (fun q hq h => by have := HCV.out q hq; have h : q = rb := h; omega))
      have HZ4 := hide (HZ3.out.fr FF (fun q hq h => by have h1 := HZ2.out.2.2 q hq; have h2 := HS3.out.lt; have h3 := HB.out; have h4 := HSZ1.out; have h : q = rb := h; have h5 := HLTD.out; omega))
      have HT4 := hide (HT3.out.fr FF (fun q hq h => by have h1 := HTT.out.2.2 q hq; have h3 := HB.out; have h4 := HSZ2.out; have h : q = rb := h; have h5 := HLTD.out; have h6 := HLT1.out; omega))
      have HF4 := hide ((HF3.out.trans FF).mono (Y := fun _ => False) (by intro k hk h; have h3 := HB.out; rcases h with h | h; exact h; (have h : k = rb := h; omega)))
      have y0 := H43.out.c0
      have y1 := H43.out.c1
      have y2 := H43.out.c2
      have y3 := H43.out.c3
      have q0 := H43.out.z 0
      have q1 := H43.out.z 1
      have q2 := H43.out.z 2
      have q3 := H43.out.z 3
      obtain ⟨W9, hW9⟩ : ∃ W9, W9 = fill4 V3 rb (.slice ca cl cc) (.slice la lm lc) (.slice pa pm pc) (.int .i64 m) := ⟨_, rfl⟩
      rw [← hW9] at H44 HC4 HZ4 HT4 HF4
      unfold fill4 at hW9
      have HW9 := hide hW9
      clear hW9 FF hS
      refine wpAnyK_one (i := 6) (by kernel_rfl) rfl rfl ?_
      go_simp
      first | refine ⟨fun h => by cases h, ?_⟩ | skip
      rw [← HW9.out]
      refine wpAnyK_done (by kernel_rfl) ?_ _
      clear y0 y1 y2 y3 q0 q1 q2 q3 HW9
      go_wp2
      refine bodyPost_ret (results_rep Try.results6 _ _ rb H44.out rfl) rfl ⟨_, _, _, m, Z, T, rfl, ?_, HZ4.out, HT4.out, HZ2.out.1, ?_, HTT.out.1, ?_, HMM.out.1, ?_, ?_, ?_, ?_, ?_, HF4.out⟩
      · rw [← hR]; exact HC4.out
      · rw [← hR]; exact HZ2.out.2.1
      · rw [← hR]; exact HTT.out.2.1
      · rw [← hR]; exact HMM.out.2.1
      · rw [← hR]; exact HMM.out.2.2
      · intro q hq; have := HCV.out q hq; have := HB.out; omega
      · intro q hq; have := HZ2.out.2.2 q hq; have := HSZ1.out; omega
      · intro q hq; have := HTT.out.2.2 q hq; have := HSZ2.out; omega
end Go.Proofs.Ytcmabldfegcdaaa
