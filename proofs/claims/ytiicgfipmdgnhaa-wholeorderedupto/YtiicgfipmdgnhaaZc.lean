/- Range: what it hands out, and what that tells. -/
import Derived.Test.YtiicgfipmdgnhaaZb
namespace Go.Proofs.Ytiicgfipmdgnhaa
open Go.RowKit Go.Shelf
set_option maxRecDepth 100000
set_option linter.unusedVariables false
set_option linter.unusedSimpArgs false

theorem TreeB.turn {w : World} {tb o : Nat} {cnt : Int} {root : Nat} {cur : Int} (h : TreeB w tb o cnt root cur) (n : Int) : TreeB (w.setCell ⟨tb, 3, none⟩ (.int .i64 n)) tb o cnt root n := ⟨heap_setCell_here _ tb 3 _ _ _ _ h.box⟩
/-- What Range leaves, and its three boxes. -/
def RangeQ (o : Nat) (cur : Int) (w : World) (tb : Nat) (cnt : Int) (h : Nat) (d : Kd) (fr to : ByteArray) (e : Ending) (w' : World) : Prop := ∃ R A B : Nat, e = .returned (.func (.func 19) #[] #[.pointer (some ⟨R, 0, none⟩), .pointer (some ⟨A, 0, none⟩), .pointer (some ⟨B, 0, none⟩)]) ∧ TreeIs o (cur + 1) w' tb cnt h d.old ∧
  w'.heap[R]? = some (.cells #[.pointer (some ⟨d.g, 0, none⟩)] 45 (0, 0)) ∧ w'.heap[A]? = some (.cells #[.string fr] 9 (0, 0)) ∧ w'.heap[B]? = some (.cells #[.string to] 9 (0, 0)) ∧ w.heap.size ≤ R ∧ w.heap.size ≤ A ∧ w.heap.size ≤ B ∧ Fr w w' (fun k => k = tb)
set_option maxHeartbeats 4000000 in
theorem range_any {o : Nat} {cur : Int} {h : Nat} {w : World} {d : Kd} {tb : Nat} {cnt : Int} (hT : TreeIs o cur w tb cnt h d) (fr to : ByteArray) (hc0 : 0 ≤ cur) (hc1 : cur ≤ 4611686018427387904) : Calls Try.prog 8 #[.pointer (some ⟨tb, 0, none⟩), .string fr, .string to] w (RangeQ o cur w tb cnt h d fr to) := by
  obtain ⟨A, hA⟩ : ∃ A, A = w.heap.size := ⟨_, rfl⟩
  obtain ⟨w1, hw1⟩ : ∃ w1, w1 = w.alloc (.cells #[.string fr] 9) := ⟨_, rfl⟩
  have f1 : Fr w w1 (fun _ => False) := by rw [hw1]; exact Fr.alloc w _ _
  have b1 : w1.heap[A]? = some (.cells #[.string fr] 9 (0, 0)) := by rw [hw1, hA]; exact heap_alloc_new w _
  obtain ⟨B, hB⟩ : ∃ B, B = w1.heap.size := ⟨_, rfl⟩
  obtain ⟨w2, hw2⟩ : ∃ w2, w2 = w1.alloc (.cells #[.string to] 9) := ⟨_, rfl⟩
  have f2 : Fr w1 w2 (fun _ => False) := by rw [hw2]; exact Fr.alloc w1 _ _
  have b2 : w2.heap[B]? = some (.cells #[.string to] 9 (0, 0)) := by rw [hw2, hB]; exact heap_alloc_new w1 _
  have hA1 := (Array.getElem?_eq_some_iff.1 b1).1
  have hB1 := (Array.getElem?_eq_some_iff.1 b2).1
  have s1 := f1.size
  have s2 := f2.size
  have ht2 := (hT.box.fr f1 (fun h => h)).fr f2 (fun h => h)
  have hlt := hT.lt
  obtain ⟨w3, hw3⟩ : ∃ w3, w3 = w2.setCell ⟨tb, 3, none⟩ (.int .i64 (cur + 1)) := ⟨_, rfl⟩
  have f3 : Fr w2 w3 (fun k => k = tb) := by rw [hw3]; exact Fr.setCell _ _ _
  have ht3 : TreeB w3 tb o cnt d.g (cur + 1) := by rw [hw3]; exact ht2.turn _
  obtain ⟨R, hR⟩ : ∃ R, R = w3.heap.size := ⟨_, rfl⟩
  obtain ⟨w4, hw4⟩ : ∃ w4, w4 = w3.alloc (.cells #[.pointer (some ⟨d.g, 0, none⟩)] 45) := ⟨_, rfl⟩
  have f4 : Fr w3 w4 (fun _ => False) := by rw [hw4]; exact Fr.alloc w3 _ _
  have b4 : w4.heap[R]? = some (.cells #[.pointer (some ⟨d.g, 0, none⟩)] 45 (0, 0)) := by rw [hw4, hR]; exact heap_alloc_new w3 _
  have s3 := f3.size
  have s4 := f4.size
  have ff : Fr w w4 (fun k => k = tb) := ((((f1.mono (fun _ _ h => h.elim)).two (f2.mono (fun _ _ h => h.elim))).two f3).two (f4.mono (fun _ _ h => h.elim)))
  have HRES : Hid (RangeQ o cur w tb cnt h d fr to (.returned (.func (.func 19) #[] #[.pointer (some ⟨R, 0, none⟩), .pointer (some ⟨A, 0, none⟩), .pointer (some ⟨B, 0, none⟩)])) w4) := hide ⟨R, A, B, rfl,
    ⟨ht3.fr f4 (fun h => h), hT.sub.old.fr ff (fun k hk e => hT.out (by rw [← e]; exact hk)), hT.srt, hT.out, hT.lo2, hT.hi64⟩, b4, by rw [f4.block A (by omega) (fun h => h), f3.block A (by omega) (by omega), f2.block A hA1 (fun h => h)]; exact b1, by rw [f4.block B (by omega) (fun h => h), f3.block B (by omega) (by omega)]; exact b2, by omega, by omega, by omega, ff⟩
  obtain ⟨_, _, _, x3⟩ := ht2.cells
  have fz : w2.frozen? ⟨tb, 3, none⟩ = false := block_frozen ht2.box _
  obtain ⟨_, _, y2, _⟩ := ht3.cells
  have hwr : wrap64 (cur + 1) = cur + 1 := by unfold wrap64; omega
  have HA := hide hA
  have HB := hide hB
  have HR := hide hR
  have H1 := hide hw1
  have H2 := hide hw2
  have H3 := hide hw3
  have H4 := hide hw4
  clear hA hB hR hw1 hw2 hw3 hw4 f1 f2 f3 f4 b1 b2 b4 hA1 hB1 s1 s2 s3 s4 ff ht2 ht3 hlt hT
  go_enter Try.func8, Try.ntmps8
  go_wp2_with (first | (rw [← H1.out, ← HA.out]; clear H1) | (rw [← H2.out, ← HB.out]; clear H2) | (rw [← H3.out]; clear H3) | (rw [← H4.out, ← HR.out]; clear H4))
  go_ret
  exact HRES.out
/-- What tell tells at any height. -/
theorem tell_all {o : Nat} {cur : Int} {X : Nat → Prop} {J Jx : List It → World → Prop} {fr to : ByteArray} {G : List It} {l : Nat} (ho : o ≤ 64) (hJ : ∀ s A B, J s A → Fr A B (fun _ => False) → J s B)
    (hY : ∀ p x W1, p ++ [x] <+: G → J p W1 → ∀ m, YieldAt Fence.wide m Try.prog l #[.string x.key, .int .i64 x.val] W1 fun e W' => (e = .returned (.bool true) ∧ J (p ++ [x]) W' ∧ KX X W1 W') ∨ (e = .returned (.bool false) ∧ Jx (p ++ [x]) W')) : ∀ h, TellAt o cur X J Jx fr to G l h
  | 0 => tell_step ho hJ hY (fun h => absurd rfl h)
  | h + 1 => tell_step ho hJ hY (fun _ => tell_all ho hJ hY h)
theorem fr_below {B : Nat} {w w' : World} (h : RowKit.Below B w w') (hB : B = w.heap.size) : Fr w w' (fun _ => False) := ⟨h.os, h.tape, h.output, h.size, fun k hk _ => h.block k (by omega)⟩
section
attribute [local go_sem] Oper.semAt_some
/-- What may be told: the elements of a list. -/
abbrev In (G : List It) := {x : It // x ∈ G}
set_option maxHeartbeats 2000000 in
theorem range_stops {o : Nat} {cur : Int} {h lo : Nat} {w : World} {d : Kd} (hS : Sub o cur h lo w d) (hs : Srt d.F) (ho : o ≤ 64) {fr to : ByteArray} {G : List It} (hG : G = rng fr to d.F) {R A B : Nat} (hR : w.heap[R]? = some (.cells #[.pointer (some ⟨d.g, 0, none⟩)] 45 (0, 0))) (hA : w.heap[A]? = some (.cells #[.string fr] 9 (0, 0))) (hB : w.heap[B]? = some (.cells #[.string to] 9 (0, 0))) (n : Nat) :
    SeqStopsK Fence.wide n Try.prog 19 #[.pointer (some ⟨R, 0, none⟩), .pointer (some ⟨A, 0, none⟩), .pointer (some ⟨B, 0, none⟩)] (fun x : In G => #[.string x.1.key, .int .i64 x.1.val]) (KX d.X) (fun ys => ys.map (fun x => x.1) = G) (fun pre => pre.map (fun x => x.1) <+: G) G.length w := fun l J Jx W hW hJ hJx hY h0 => by
  have f := fr_below hW rfl
  have c1 : W.cell? ⟨R, 0, none⟩ = some (.pointer (some ⟨d.g, 0, none⟩)) := by rw [cell_of_row _ _ _ _ _ _ ((f.block R (Array.getElem?_eq_some_iff.1 hR).1 (fun h => h)).trans hR)]; rfl
  have c2 : W.cell? ⟨A, 0, none⟩ = some (.string fr) := by rw [cell_of_row _ _ _ _ _ _ ((f.block A (Array.getElem?_eq_some_iff.1 hA).1 (fun h => h)).trans hA)]; rfl
  have c3 : W.cell? ⟨B, 0, none⟩ = some (.string to) := by rw [cell_of_row _ _ _ _ _ _ ((f.block B (Array.getElem?_eq_some_iff.1 hB).1 (fun h => h)).trans hB)]; rfl
  have HT := hide (tell_all (X := d.X) (J := fun p W => ∃ q : List (In G), q.map (fun x => x.1) = p ∧ J q W) (Jx := fun p W => ∃ q : List (In G), q.map (fun x => x.1) = p ∧ Jx q W) (fr := fr) (to := to) (cur := cur) (G := G) ho (fun s A B ⟨q, e, hs⟩ hf => ⟨q, e, hJ q A B none hs ⟨hf.os, hf.tape, hf.output, hf.size, fun k hk _ => hf.block k hk (fun h => h)⟩ (fun r e => by cases e)⟩) (fun p x W1 h1 h2 m => by
    obtain ⟨q, e, h2⟩ := h2
    have hx : x ∈ G := h1.subset (by simp)
    have hql : q.length < G.length := by
      have h3 := h1.length_le
      rw [← e] at h3
      simp only [List.length_append, List.length_map, List.length_singleton] at h3
      omega
    obtain ⟨fn, tmps, assign, body, y1, y2, y3⟩ := hY q ⟨x, hx⟩ W1 h2 hql
    refine ⟨fn, tmps, assign, body, y1, y2, fun c cs hr => ?_⟩
    obtain ⟨e', W', hq, hs⟩ := y3 c cs (room_wide _)
    refine ⟨e', W', ?_, hs⟩
    rcases hq with ⟨a1, a2, a3⟩ | ⟨a1, a2⟩
    · exact .inl ⟨a1, ⟨q ++ [⟨x, hx⟩], by rw [List.map_append, e]; rfl, a2⟩, a3⟩
    · exact .inr ⟨a1, q ++ [⟨x, hx⟩], by rw [List.map_append, e]; rfl, a2⟩) h lo (n - 1) W d [] (hS.fr f (fun _ _ h => h)) hs (fun _ h => h) ⟨[], rfl, h0⟩ (by rw [List.nil_append, ← hG]; exact List.prefix_rfl))
  clear hS hs hR hA hB hW hJ hJx hY h0 f
  refine callsIn_of_wp Try.func19 rfl trivial ?_ rfl
  simp only [Try.ntmps19, List.size_toArray, List.length_cons, List.length_nil, Nat.reduceAdd, Nat.reduceSub, Array.replicate_succ, Array.replicate_zero, List.push_toArray, List.append_toArray, List.nil_append, List.cons_append]
  gi_wp2_with fail
  refine ⟨trivial, fun h => by simp [Fence.wide] at h, ?_⟩
  refine HT.out.mono ?_
  rintro en W1 (⟨rfl, hj, _⟩ | ⟨rfl, hj, _⟩ | ⟨rfl, q, hq, hj⟩)
  · have HJ1 := hide hj
    clear hj
    gi_wp2
    refine bodyPost_end (results_none rfl _ _ _) rfl ?_
    obtain ⟨q, e1, h1⟩ := HJ1.out
    exact ⟨⟨_, rfl⟩, .inl ⟨q, by rw [e1, List.nil_append, hG], h1⟩⟩
  · have HJ1 := hide hj
    clear hj
    gi_wp2
    refine bodyPost_end (results_none rfl _ _ _) rfl ?_
    obtain ⟨q, e1, h1⟩ := HJ1.out
    exact ⟨⟨_, rfl⟩, .inl ⟨q, by rw [e1, List.nil_append, hG], h1⟩⟩
  · have HJ1 := hide hj
    have HQ := hide hq
    clear hj hq
    gi_wp2
    refine bodyPost_end (results_none rfl _ _ _) rfl ?_
    obtain ⟨q', e1, h1⟩ := HJ1.out
    exact ⟨⟨_, rfl⟩, .inr ⟨q', by rw [e1, List.nil_append, hG]; exact HQ.out, h1⟩⟩
end
end Go.Proofs.Ytiicgfipmdgnhaa
