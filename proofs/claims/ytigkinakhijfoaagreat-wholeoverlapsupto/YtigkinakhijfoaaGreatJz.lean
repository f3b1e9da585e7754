/- Range: what it hands out, and what that tells. -/
import Derived.Test.YtigkinakhijfoaaGreatZb
import Derived.Test.YtigkinakhijfoaaGreatJy
import Derived.Test.YtigkinakhijfoaaGreatMa
import Derived.Test.YtigkinakhijfoaaGreatJg
import Derived.Test.YtigkinakhijfoaaGreatJq
namespace Go.Proofs.YtigkinakhijfoaaGreat
open Go.RowKit Go.Shelf
set_option maxRecDepth 100000
set_option linter.unusedVariables false
set_option linter.unusedSimpArgs false

theorem TreeB.turn {w : World} {tb o : Nat} {cnt : Int} {root : Nat} {cur : Int} (h : TreeB w tb o cnt root cur) (n : Int) : TreeB (w.setCell ⟨tb, 3, none⟩ (.int .i64 n)) tb o cnt root n := ⟨heap_setCell_here _ tb 3 _ _ _ _ h.box⟩
/-- What Range leaves, and its three boxes. -/
def RangeQ (o : Nat) (cur : Int) (w : World) (tb : Nat) (cnt : Int) (h : Nat) (d : Kd) (fr to : ByteArray) (e : Ending) (w' : World) : Prop := ∃ R A B : Nat, e = .returned (.func (.func 41) #[] #[.pointer (some ⟨R, 0, none⟩), .pointer (some ⟨A, 0, none⟩), .pointer (some ⟨B, 0, none⟩)]) ∧ TreeIs o (cur + 1) w' tb cnt h d.old ∧
  w'.heap[R]? = some (.cells #[.pointer (some ⟨d.g, 0, none⟩)] 74 (0, 0)) ∧ w'.heap[A]? = some (.cells #[.string fr] 9 (0, 0)) ∧ w'.heap[B]? = some (.cells #[.string to] 9 (0, 0)) ∧ w.heap.size ≤ R ∧ w.heap.size ≤ A ∧ w.heap.size ≤ B ∧ Fr w w' (fun k => k = tb)
set_option maxHeartbeats 4000000 in
theorem range_any {o : Nat} {cur : Int} {h : Nat} {w : World} {d : Kd} {tb : Nat} {cnt : Int} (hT : TreeIs o cur w tb cnt h d) (fr to : ByteArray) (hc0 : 0 ≤ cur) (hc1 : cur ≤ 4611686018427387904) : Calls Tryz.prog 23 #[.pointer (some ⟨tb, 0, none⟩), .string fr, .string to] w (RangeQ o cur w tb cnt h d fr to) := by
  obtain ⟨A, hA⟩ : ∃ A, A = w.heap.size := ⟨_, rfl⟩
  obtain ⟨w1, hw1⟩ : ∃ w1, w1 = w.alloc (.cells #[.string fr] 9) := ⟨_, rfl⟩
  have f1 : Fr w w1 (fun _ => False) := by rw [hw1]; exact Fr.alloc w _ _
  have b1 : w1.heap[A]? = some (.cells #[.string fr] 9 (0, 0)) := by rw [hw1, hA]; exact heap_alloc_new w _
  obtain ⟨B, hB⟩ : ∃ B, B = w1.heap.size := ⟨_, rfl⟩
  obtain ⟨w2, hw2⟩ : ∃ w2, w2 = w1.alloc (.cells #[.string to] 9) := ⟨_, rfl⟩
  have f2 : Fr w1 w2 (fun _ => False) := by rw [hw2]; exact Fr.alloc w1 _ _
  have b2 : w2.heap[B]? = some (.cells #[.string to] 9 (0, 0)) := by rw [hw2, hB]; exact heap_alloc_new w1 _
  have hA1 := (Array.getElem?_eq_some_iff.1 b1).1
  have hB1 := (Array.getElem?_eq_some_iff.1 b2).1
  have s1 := f1.size
  have s2 := f2.size
  have ht2 := (hT.box.fr f1 (fun h => h)).fr f2 (fun h => h)
  have hlt := hT.lt
  obtain ⟨w3, hw3⟩ : ∃ w3, w3 = w2.setCell ⟨tb, 3, none⟩ (.int .i64 (cur + 1)) := ⟨_, rfl⟩
  have f3 : Fr w2 w3 (fun k => k = tb) := by rw [hw3]; exact Fr.setCell _ _ _
  have ht3 : TreeB w3 tb o cnt d.g (cur + 1) := by rw [hw3]; exact ht2.turn _
  obtain ⟨R, hR⟩ : ∃ R, R = w3.heap.size := ⟨_, rfl⟩
  obtain ⟨w4, hw4⟩ : ∃ w4, w4 = w3.alloc (.cells #[.pointer (some ⟨d.g, 0, none⟩)] 74) := ⟨_, rfl⟩
  have f4 : Fr w3 w4 (fun _ => False) := by rw [hw4]; exact Fr.alloc w3 _ _
  have b4 : w4.heap[R]? = some (.cells #[.pointer (some ⟨d.g, 0, none⟩)] 74 (0, 0)) := by rw [hw4, hR]; exact heap_alloc_new w3 _
  have s3 := f3.size
  have s4 := f4.size
  have ff : Fr w w4 (fun k => k = tb) := ((((f1.mono (fun _ _ h => h.elim)).two (f2.mono (fun _ _ h => h.elim))).two f3).two (f4.mono (fun _ _ h => h.elim)))
  have HRES : Hid (RangeQ o cur w tb cnt h d fr to (.returned (.func (.func 41) #[] #[.pointer (some ⟨R, 0, none⟩), .pointer (some ⟨A, 0, none⟩), .pointer (some ⟨B, 0, none⟩)])) w4) := hide ⟨R, A, B, rfl,
    ⟨ht3.fr f4 (fun h => h), hT.sub.old.fr ff (fun k hk e => hT.out (by rw [← e]; exact hk)), hT.srt, hT.out, hT.lo2, hT.hi64⟩, b4, by rw [f4.block A (by omega) (fun h => h), f3.block A (by omega) (by omega), f2.block A hA1 (fun h => h)]; exact b1, by rw [f4.block B (by omega) (fun h => h), f3.block B (by omega) (by omega)]; exact b2, by omega, by omega, by omega, ff⟩
  obtain ⟨_, _, _, x3⟩ := ht2.cells
  have fz : w2.frozen? ⟨tb, 3, none⟩ = false := block_frozen ht2.box _
  obtain ⟨_, _, y2, _⟩ := ht3.cells
  have hwr : wrap64 (cur + 1) = cur + 1 := by unfold wrap64; omega
  have HA := hide hA
  have HB := hide hB
  have HR := hide hR
  have H1 := hide hw1
  have H2 := hide hw2
  have H3 := hide hw3
  have H4 := hide hw4
  clear hA hB hR hw1 hw2 hw3 hw4 f1 f2 f3 f4 b1 b2 b4 hA1 hB1 s1 s2 s3 s4 ff ht2 ht3 hlt hT
  go_enter Tryz.func23, Tryz.ntmps23
  go_wp2_with (first | (rw [← H1.out, ← HA.out]; clear H1) | (rw [← H2.out, ← HB.out]; clear H2) | (rw [← H3.out]; clear H3) | (rw [← H4.out, ← HR.out]; clear H4))
  go_ret
  exact HRES.out
/-- What tell tells at any height. -/
theorem tell_all {o : Nat} {cur : Int} {X : Nat → Prop} {J Jx : List It → World → Prop} {fr to : ByteArray} {G : List It} {l : Nat} (ho : o ≤ 64) (hJ : ∀ s A B, J s A → Fr A B (fun _ => False) → J s B)
    (hY : ∀ p x W1, p ++ [x] <+: G → J p W1 → ∀ m, YieldAt Fence.wide m Tryz.prog l #[.string x.key, .int .i64 x.val] W1 fun e W' => (e = .returned (.bool true) ∧ J (p ++ [x]) W' ∧ KX X W1 W') ∨ (e = .returned (.bool false) ∧ Jx (p ++ [x]) W')) : ∀ h, TellAt o cur X J Jx fr to G l h
  | 0 => tell_step ho hJ hY (fun h => absurd rfl h)
  | h + 1 => tell_step ho hJ hY (fun _ => tell_all ho hJ hY h)
theorem fr_below {B : Nat} {w w' : World} (h : RowKit.Below B w w') (hB : B = w.heap.size) : Fr w w' (fun _ => False) := ⟨h.os, h.tape, h.output, h.size, fun k hk _ => h.block k (by omega)⟩
section
attribute [local go_sem] Oper.semAt_some
/-- What may be told: the elements of a list. -/
abbrev In (G : List It) := {x : It // x ∈ G}
set_option maxHeartbeats 2000000 in
theorem range_stops {o : Nat} {cur : Int} {h lo : Nat} {w : World} {d : Kd} (hS : Sub o cur h lo w d) (hs : Srt d.F) (ho : o ≤ 64) {fr to : ByteArray} {G : List It} (hG : G = rng fr to d.F) {R A B : Nat} (hR : w.heap[R]? = some (.cells #[.pointer (some ⟨d.g, 0, none⟩)] 74 (0, 0))) (hA : w.heap[A]? = some (.cells #[.string fr] 9 (0, 0))) (hB : w.heap[B]? = some (.cells #[.string to] 9 (0, 0))) (n : Nat) :
    SeqStopsK Fence.wide n Tryz.prog 41 #[.pointer (some ⟨R, 0, none⟩), .pointer (some ⟨A, 0, none⟩), .pointer (some ⟨B, 0, none⟩)] (fun x : In G => #[.string x.1.key, .int .i64 x.1.val]) (KX d.X) (fun ys => ys.map (fun x => x.1) = G) (fun pre => pre.map (fun x => x.1) <+: G) G.length w := fun l J Jx W hW hJ hJx hY h0 => by
  have f := fr_below hW rfl
  have c1 : W.cell? ⟨R, 0, none⟩ = some (.pointer (some ⟨d.g, 0, none⟩)) := by rw [cell_of_row _ _ _ _ _ _ ((f.block R (Array.getElem?_eq_some_iff.1 hR).1 (fun h => h)).trans hR)]; rfl
  have c2 : W.cell? ⟨A, 0, none⟩ = some (.string fr) := by rw [cell_of_row _ _ _ _ _ _ ((f.block A (Array.getElem?_eq_some_iff.1 hA).1 (fun h => h)).trans hA)]; rfl
  have c3 : W.cell? ⟨B, 0, none⟩ = some (.string to) := by rw [cell_of_row _ _ _ _ _ _ ((f.block B (Array.getElem?_eq_some_iff.1 hB).1 (fun h => h)).trans hB)]; rfl
  have HT := hide (tell_all (X := d.X) (J := fun p W => ∃ q : List (In G), q.map (fun x => x.1) = p ∧ J q W) (Jx := fun p W => ∃ q : List (In G), q.map (fun x => x.1) = p ∧ Jx q W) (fr := fr) (to := to) (cur := cur) (G := G) ho (fun s A B ⟨q, e, hs⟩ hf => ⟨q, e, hJ q A B none hs ⟨hf.os, hf.tape, hf.output, hf.size, fun k hk _ => hf.block k hk (fun h => h)⟩ (fun r e => by cases e)⟩) (fun p x W1 h1 h2 m => by
    obtain ⟨q, e, h2⟩ := h2
    have hx : x ∈ G := h1.subset (by simp)
    have hql : q.length < G.length := by
      have h3 := h1.length_le
      rw [← e] at h3
      simp only [List.length_append, List.length_map, List.length_singleton] at h3
      omega
    obtain ⟨fn, tmps, assign, body, y1, y2, y3⟩ := hY q ⟨x, hx⟩ W1 h2 hql
    refine ⟨fn, tmps, assign, body, y1, y2, fun c cs hr => ?_⟩
    obtain ⟨e', W', hq, hs⟩ := y3 c cs (room_wide _)
    refine ⟨e', W', ?_, hs⟩
    rcases hq with ⟨a1, a2, a3⟩ | ⟨a1, a2⟩
    · exact .inl ⟨a1, ⟨q ++ [⟨x, hx⟩], by rw [List.map_append, e]; rfl, a2⟩, a3⟩
    · exact .inr ⟨a1, q ++ [⟨x, hx⟩], by rw [List.map_append, e]; rfl, a2⟩) h lo (n - 1) W d [] (hS.fr f (fun _ _ h => h)) hs (fun _ h => h) ⟨[], rfl, h0⟩ (by rw [List.nil_append, ← hG]; exact List.prefix_rfl))
  clear hS hs hR hA hB hW hJ hJx hY h0 f
  refine callsIn_of_wp Tryz.func41 rfl trivial ?_ rfl
  simp only [Tryz.ntmps41, List.size_toArray, List.length_cons, List.length_nil, Nat.reduceAdd, Nat.reduceSub, Array.replicate_succ, Array.replicate_zero, List.push_toArray, List.append_toArray, List.nil_append, List.cons_append]
  gi_wp2_with fail
  refine ⟨trivial, fun h => by simp [Fence.wide] at h, ?_⟩
  refine HT.out.mono ?_
  rintro en W1 (⟨rfl, hj, _⟩ | ⟨rfl, hj, _⟩ | ⟨rfl, q, hq, hj⟩)
  · have HJ1 := hide hj
    clear hj
    gi_wp2
    refine bodyPost_end (results_none rfl _ _ _) rfl ?_
    obtain ⟨q, e1, h1⟩ := HJ1.out
    exact ⟨⟨_, rfl⟩, .inl ⟨q, by rw [e1, List.nil_append, hG], h1⟩⟩
  · have HJ1 := hide hj
    clear hj
    gi_wp2
    refine bodyPost_end (results_none rfl _ _ _) rfl ?_
    obtain ⟨q, e1, h1⟩ := HJ1.out
    exact ⟨⟨_, rfl⟩, .inl ⟨q, by rw [e1, List.nil_append, hG], h1⟩⟩
  · have HJ1 := hide hj
    have HQ := hide hq
    clear hj hq
    gi_wp2
    refine bodyPost_end (results_none rfl _ _ _) rfl ?_
    obtain ⟨q', e1, h1⟩ := HJ1.out
    exact ⟨⟨_, rfl⟩, .inr ⟨q', by rw [e1, List.nil_append, hG]; exact HQ.out, h1⟩⟩
end
end Go.Proofs.YtigkinakhijfoaaGreat

/- A tree by its keys alone: what each call leaves. -/
namespace Go.Proofs.YtigkinakhijfoaaGreat
open Go.RowKit
set_option maxRecDepth 100000
set_option linter.unusedVariables false
set_option linter.unusedSimpArgs false

theorem InsR.mem {k : ByteArray} {v : Int} {F F' : List It} (h : InsR k v F F') : (∀ x, x ∈ F' ↔ (x ∈ F ∧ x.key ≠ k) ∨ x = ⟨k, v⟩) ∧ F'.length = F.length + 1 := by
  obtain ⟨A, C, rfl, rfl, h1, h2⟩ := h
  refine ⟨fun x => ?_, by simp; omega⟩
  have hn : x ∈ A ++ C → x.key ≠ k := fun hx e => by
    rcases List.mem_append.1 hx with hx | hx
    · have := h1 x hx; rw [e] at this; exact kl_irr this
    · have := h2 x hx; rw [e] at this; exact kl_irr this
  constructor
  · intro hx
    rcases List.mem_append.1 hx with hx | hx
    · exact .inl ⟨List.mem_append_left _ hx, hn (List.mem_append_left _ hx)⟩
    · rcases List.mem_cons.1 hx with hx | hx
      · exact .inr hx
      · exact .inl ⟨List.mem_append_right _ hx, hn (List.mem_append_right _ hx)⟩
  · rintro (⟨hx, _⟩ | rfl)
    · rcases List.mem_append.1 hx with hx | hx
      · exact List.mem_append_left _ hx
      · exact List.mem_append_right _ (List.mem_cons_of_mem _ hx)
    · simp
theorem UpdR.mem {k : ByteArray} {v : Int} {F F' : List It} (h : UpdR k v F F') : (∀ x, x ∈ F' ↔ (x ∈ F ∧ x.key ≠ k) ∨ x = ⟨k, v⟩) ∧ F'.length = F.length := by
  obtain ⟨A, u, C, rfl, rfl, h1, h2⟩ := h
  refine ⟨fun x => ?_, by simp⟩
  have ha : x ∈ A → x.key ≠ k := fun hx e => by have := h1 x hx; rw [e] at this; exact kl_irr this
  have hc : x ∈ C → x.key ≠ k := fun hx e => by have := h2 x hx; rw [e] at this; exact kl_irr this
  constructor
  · intro hx
    rcases List.mem_append.1 hx with hx | hx
    · exact .inl ⟨List.mem_append_left _ hx, ha hx⟩
    · rcases List.mem_cons.1 hx with hx | hx
      · exact .inr hx
      · exact .inl ⟨List.mem_append_right _ (List.mem_cons_of_mem _ hx), hc hx⟩
  · rintro (⟨hx, hk⟩ | rfl)
    · rcases List.mem_append.1 hx with hx | hx
      · exact List.mem_append_left _ hx
      · rcases List.mem_cons.1 hx with rfl | hx
        · exact absurd rfl hk
        · exact List.mem_append_right _ (List.mem_cons_of_mem _ hx)
    · simp
theorem DelR.mem {k : ByteArray} {F F' : List It} (h : DelR k F F') : (∀ x, x ∈ F' ↔ x ∈ F ∧ x.key ≠ k) ∧ F'.length + 1 = F.length := by
  obtain ⟨A, u, C, rfl, rfl, h1, h2⟩ := h
  refine ⟨fun x => ?_, by simp; omega⟩
  have ha : x ∈ A → x.key ≠ k := fun hx e => by have := h1 x hx; rw [e] at this; exact kl_irr this
  have hc : x ∈ C → x.key ≠ k := fun hx e => by have := h2 x hx; rw [e] at this; exact kl_irr this
  constructor
  · intro hx
    rcases List.mem_append.1 hx with hx | hx
    · exact ⟨List.mem_append_left _ hx, ha hx⟩
    · exact ⟨List.mem_append_right _ (List.mem_cons_of_mem _ hx), hc hx⟩
  · rintro ⟨hx, hk⟩
    rcases List.mem_append.1 hx with hx | hx
    · exact List.mem_append_left _ hx
    · rcases List.mem_cons.1 hx with rfl | hx
      · exact absurd rfl hk
      · exact List.mem_append_right _ hx
/-- Rising lists with the same members are the same. -/
theorem Srt.ext : ∀ {A B : List It}, Srt A → Srt B → (∀ x, x ∈ A ↔ x ∈ B) → A = B
  | [], [], _, _, _ => rfl
  | [], y :: B, _, _, h => by have := (h y).2 (List.mem_cons_self ..); simp at this
  | x :: A, [], _, _, h => by have := (h x).1 (List.mem_cons_self ..); simp at this
  | x :: A, y :: B, ha, hb, h => by
    obtain ⟨a1, a2⟩ := ha.cons
    obtain ⟨b1, b2⟩ := hb.cons
    have hxy : x = y := by
      rcases List.mem_cons.1 ((h x).1 (List.mem_cons_self ..)) with e | e
      · exact e
      · rcases List.mem_cons.1 ((h y).2 (List.mem_cons_self ..)) with e2 | e2
        · exact e2.symm
        · exact (kl_asy (b1 x e) (a1 y e2)).elim
    subst hxy
    congr 1
    refine Srt.ext a2 b2 (fun z => ?_)
    constructor
    · intro hz
      rcases List.mem_cons.1 ((h z).1 (List.mem_cons_of_mem _ hz)) with e | e
      · subst e; exact (kl_irr (a1 z hz)).elim
      · exact e
    · intro hz
      rcases List.mem_cons.1 ((h z).2 (List.mem_cons_of_mem _ hz)) with e | e
      · subst e; exact (kl_irr (b1 z hz)).elim
      · exact e
theorem Sub.xlt {o : Nat} {cur : Int} {h lo : Nat} {w : World} {d : Kd} (hs : Sub o cur h lo w d) : ∀ k, d.X k → k < w.heap.size := hs.x.2.1
/-- A tree by its keys: its blocks lie from base on. -/
def TS (base o : Nat) (cur : Int) (w : World) (tb : Nat) (d : Kd) : Prop := ∃ h, TreeIs o cur w tb (d.F.length : Int) h d ∧ base ≤ tb ∧ ∀ k, d.X k → base ≤ k
/-- Its blocks. -/
def TX (tb : Nat) (d : Kd) (k : Nat) : Prop := k = tb ∨ d.X k
theorem TS.lt {base o : Nat} {cur : Int} {w : World} {tb : Nat} {d : Kd} (h : TS base o cur w tb d) : ∀ k, TX tb d k → k < w.heap.size := fun k hk => by
  obtain ⟨h', ht, _, _⟩ := h
  rcases hk with rfl | hk
  · exact ht.lt
  · exact ht.sub.xlt k hk
theorem TS.base {base o : Nat} {cur : Int} {w : World} {tb : Nat} {d : Kd} (h : TS base o cur w tb d) : ∀ k, TX tb d k → base ≤ k := fun k hk => by
  obtain ⟨h', ht, h1, h2⟩ := h
  rcases hk with rfl | hk
  · exact h1
  · exact h2 k hk
theorem TS.fr {base o : Nat} {cur : Int} {w w' : World} {tb : Nat} {d : Kd} {Z : Nat → Prop} (h : TS base o cur w tb d) (hf : Fr w w' Z) (hz : ∀ k, TX tb d k → ¬ Z k) : TS base o cur w' tb d := by
  obtain ⟨h', ht, h1, h2⟩ := h
  exact ⟨h', ht.fr hf (hz tb (.inl rfl)) (fun k hk => hz k (.inr hk)), h1, h2⟩
theorem TS.srt {base o : Nat} {cur : Int} {w : World} {tb : Nat} {d : Kd} (h : TS base o cur w tb d) : Srt d.F := by
  obtain ⟨h', ht, _⟩ := h
  exact ht.srt
theorem Left.ts {base o : Nat} {cur : Int} {w W : World} {tb : Nat} {d : Kd} {h0 : Nat} {n0 n : Int} {T : List It → Prop} (hT : TreeIs o cur w tb n0 h0 d) (h1 : base ≤ tb) (h2 : ∀ k, d.X k → base ≤ k) (hb : base ≤ w.heap.size) (h : Left o cur w tb n d T W) (hn : ∀ F, T F → n = (F.length : Int)) : ∃ d', TS base o cur W tb d' ∧ T d'.F ∧ (∀ k, TX tb d' k → TX tb d k ∨ w.heap.size ≤ k) ∧ Fr w W (TX tb d) := by
  obtain ⟨h', d', ht, hTd, hX, hY, hf⟩ := h
  refine ⟨d', ⟨h', by rw [← hn _ hTd]; exact ht, h1, fun k hk => ?_⟩, hTd, fun k hk => ?_, hf.mono (fun k _ hk => hk.imp id (fun hy => hT.sub.x.2.2 k hy))⟩
  · rcases hX k hk with h | h
    · exact h2 k h
    · omega
  · rcases hk with hk | hk
    · exact .inl (.inl hk)
    · rcases hX k hk with h | h
      · exact .inl (.inr h)
      · exact .inr h
def PutT (base o : Nat) (cur : Int) (w : World) (tb : Nat) (d : Kd) (s : ByteArray) (v : Int) (e : Ending) (w' : World) : Prop := ∃ (b : Bool) (d' : Kd), e = .returned (.bool b) ∧ (b = true ↔ ∃ u, (⟨s, u⟩ : It) ∈ d.F) ∧ TS base o cur w' tb d' ∧ (∀ x, x ∈ d'.F ↔ (x ∈ d.F ∧ x.key ≠ s) ∨ x = ⟨s, v⟩) ∧ d'.F.length ≤ d.F.length + 1 ∧ (∀ k, TX tb d' k → TX tb d k ∨ w.heap.size ≤ k) ∧ Fr w w' (TX tb d)
theorem TS.put {base o : Nat} {cur : Int} {w : World} {tb : Nat} {d : Kd} (h : TS base o cur w tb d) (hb : base ≤ w.heap.size) (s : ByteArray) (v : Int) (hl : d.F.length ≤ 4398046511104) : Calls Tryz.prog 16 #[.pointer (some ⟨tb, 0, none⟩), .string s, .int .i64 v] w (PutT base o cur w tb d s v) := by
  obtain ⟨h', ht, h1, h2⟩ := h
  refine (put_any ht s v (by omega) (by omega)).mono ?_
  rintro e w' (⟨hu, rfl, hL⟩ | ⟨hno, rfl, hL⟩)
  · obtain ⟨d', q1, q2, q3, q4⟩ := hL.ts ht h1 h2 hb (fun F hF => by rw [hF.mem.2])
    exact ⟨true, d', rfl, ⟨fun _ => hu, fun _ => rfl⟩, q1, q2.mem.1, by rw [q2.mem.2]; omega, q3, q4⟩
  · obtain ⟨d', q1, q2, q3, q4⟩ := hL.ts ht h1 h2 hb (fun F hF => by rw [hF.mem.2]; omega)
    exact ⟨false, d', rfl, ⟨fun h => (by cases h), fun ⟨u, hu⟩ => absurd rfl (hno _ hu)⟩, q1, q2.mem.1, by rw [q2.mem.2]; omega, q3, q4⟩
def CutT (base o : Nat) (cur : Int) (w : World) (tb : Nat) (d : Kd) (s : ByteArray) (e : Ending) (w' : World) : Prop := ∃ (b : Bool) (d' : Kd), e = .returned (.bool b) ∧ (b = true ↔ ∃ u, (⟨s, u⟩ : It) ∈ d.F) ∧ TS base o cur w' tb d' ∧ (∀ x, x ∈ d'.F ↔ x ∈ d.F ∧ x.key ≠ s) ∧ d'.F.length ≤ d.F.length ∧ (∀ k, TX tb d' k → TX tb d k ∨ w.heap.size ≤ k) ∧ Fr w w' (TX tb d)
theorem TS.cut {base o : Nat} {cur : Int} {w : World} {tb : Nat} {d : Kd} (h : TS base o cur w tb d) (hb : base ≤ w.heap.size) (s : ByteArray) (hl : d.F.length ≤ 4398046511104) : Calls Tryz.prog 18 #[.pointer (some ⟨tb, 0, none⟩), .string s] w (CutT base o cur w tb d s) := by
  obtain ⟨h', ht, h1, h2⟩ := h
  refine (cut_any ht s (by omega) (by omega)).mono ?_
  rintro e w' (⟨hu, rfl, hL⟩ | ⟨hno, rfl, hf⟩)
  · obtain ⟨d', q1, q2, q3, q4⟩ := hL.ts ht h1 h2 hb (fun F hF => by have := hF.mem.2; omega)
    exact ⟨true, d', rfl, ⟨fun _ => hu, fun _ => rfl⟩, q1, q2.mem.1, by have := q2.mem.2; omega, q3, q4⟩
  · refine ⟨false, d, rfl, ⟨fun h => (by cases h), fun ⟨u, hu⟩ => absurd rfl (hno _ hu)⟩, ⟨h', ht.fr hf (fun h => h) (fun _ _ h => h), h1, h2⟩, fun x => ⟨fun hx => ⟨hx, hno x hx⟩, fun hx => hx.1⟩, Nat.le_refl _, fun k hk => .inl hk, hf.mono (fun _ _ h => h.elim)⟩
def GetT (w : World) (d : Kd) (s : ByteArray) (e : Ending) (w' : World) : Prop := Fr w w' (fun _ => False) ∧ ((∃ u, (⟨s, u⟩ : It) ∈ d.F ∧ e = .returned (.tuple #[.int .i64 u, .bool true])) ∨ ((∀ x ∈ d.F, x.key ≠ s) ∧ e = .returned (.tuple #[.int .i64 0, .bool false])))
theorem TS.get {base o : Nat} {cur : Int} {w : World} {tb : Nat} {d : Kd} (h : TS base o cur w tb d) (s : ByteArray) : Calls Tryz.prog 29 #[.pointer (some ⟨tb, 0, none⟩), .string s] w (GetT w d s) := by
  obtain ⟨h', ht, h1, h2⟩ := h
  refine (get_any ht.box ht.sub ht.srt ht.hi64 s).mono ?_
  intro e w' hq
  exact hq
theorem TS.mono {base base' o : Nat} {cur : Int} {w : World} {tb : Nat} {d : Kd} (h : TS base o cur w tb d) (hb : base' ≤ base) : TS base' o cur w tb d := by
  obtain ⟨h', ht, h1, h2⟩ := h
  exact ⟨h', ht, by omega, fun k hk => by have := h2 k hk; omega⟩
theorem new_ts {w : World} (order : Int) : Calls Tryz.prog 14 #[.int .i64 order] w fun e w' => Fr w w' (fun _ => False) ∧ (((order < 2 ∨ 64 < order) ∧ e = .returned (.tuple #[.pointer none, .int .i64 1])) ∨ ∃ (o tb : Nat) (d : Kd), order = (o : Int) ∧ 2 ≤ o ∧ o ≤ 64 ∧ e = .returned (.tuple #[.pointer (some ⟨tb, 0, none⟩), .int .i64 0]) ∧ TS w.heap.size o 0 w' tb d ∧ d.F = []) := by
  refine (new_any order w).mono ?_
  rintro e w' ⟨hf, h | ⟨o, tb, d, h1, rfl, h2, h3, h4, h5⟩⟩
  · exact ⟨hf, .inl h⟩
  · exact ⟨hf, .inr ⟨o, tb, d, h1, h2.lo2, h2.hi64, rfl, ⟨0, by rw [h3]; exact h2, h4, h5⟩, h3⟩⟩
end Go.Proofs.YtigkinakhijfoaaGreat

/- A map of periods by numbers; a tree of periods as a whole. -/
namespace Go.Proofs.YtigkinakhijfoaaGreat
open Go.RowKit
set_option maxRecDepth 100000
set_option linter.unusedVariables false
set_option linter.unusedSimpArgs false

def rdP (v : Value) : Option (DataW Unit × List MemPlace) := match v with
  | .agg ⟨[.int .i64 a, .int .i64 b]⟩ => some (.agg [.lit (.int .i64 a), .lit (.int .i64 b)], [])
  | _ => none
/-- Periods by numbers. -/
def EP : Elem Int Per where
  t := 48
  k := 2
  e := 24
  ht := Tryz.underlying48
  K := Maps.int_keyed Tryz.underlying2
  kv := fun x => .int .i64 x
  kl := fun x => .int .i64 x
  ok := In64
  hkey := fun x hx => Maps.keyOf_int_mk Tryz.underlying2 hx.wf
  kinv := fun v l h => by obtain ⟨x, h1, h2, h3⟩ := Maps.keyOf_int_inv Tryz.underlying2 h; exact ⟨x, h1, h2, in64_of h3⟩
  kinj := fun x y h => by injection h
  vinj := fun x y h => by injection h
  kkey := fun x => trivial
  R := rdP
  val := perV
  dat := fun p => .agg [.lit (.int .i64 p.lo), .lit (.int .i64 p.hi)]
  z := ⟨0, 0⟩
  hz := fun w => by kernel_rfl
  hR := fun b => rfl
  inv := fun v y h => by
    unfold rdP at h
    split at h
    · cases h; exact ⟨⟨_, _⟩, rfl, rfl⟩
    · cases h
  inj := fun a b h => by
    injection h with h1
    injection h1 with h2 h3
    injection h3 with h4 h5
    injection h2 with g1
    injection h4 with g2
    injection g1 with _ g1
    injection g2 with _ g2
    cases a; cases b; simp_all
/-- A map of just so many entries. -/
def MapN (w : World) (gm c : Nat) (f : Int → Option Per) : Prop := ∃ D : DataW Unit, w.ownsMap Tryz.prog EP.k EP.R gm c D ∧ Says EP D f ∧ Maps.size D = c
section
variable {w w' : World} {gm c : Nat} {f : Int → Option Per}
theorem MapN.mf (h : MapN w gm c f) : MapF EP w gm c f := by obtain ⟨D, h1, h2, _⟩ := h; exact ⟨D, h1, h2⟩
theorem MapN.fr {X : Nat → Prop} (h : MapN w gm c f) (hf : Fr w w' X) (hx : ¬ X gm) : MapN w' gm c f := by
  obtain ⟨D, ⟨es, clock, hb, r⟩, h2, h3⟩ := h
  exact ⟨D, ⟨es, clock, by rw [hf.block gm (Array.getElem?_eq_some_iff.1 hb).1 hx]; exact hb, r⟩, h2, h3⟩
theorem mapN_new (w : World) : MapN (w.alloc (.map #[] 0)) w.heap.size 0 (fun _ => none) :=
  ⟨.map [], World.ownsMap_made w _ _ _, (fun x _ => ⟨rfl, fun b zd h => by cases h⟩), rfl⟩
theorem MapN.len (h : MapN w gm c f) (ty : TypeId) : (Builtin.len_ #[48] ty #[.map (some gm)]).run Tryz.prog w = .ok (.int .i64 (c : Int)) w := by
  obtain ⟨D, hown, _, hs⟩ := h
  have := hown.len EP.ht ty
  rw [hs] at this
  exact this
theorem MapN.put (h : MapN w gm c f) (hc : c < maxLen) {x : Int} (hx : In64 x) (hn : f x = none) (b : Per) : ∃ w', (Instr.mapUpdate 48 (.map (some gm)) (.int .i64 x) (perV b)).run Tryz.prog w = .ok () w' ∧ MapN w' gm (c + 1) (fun y => if y = x then some b else f y) ∧ Fr w w' (fun k => k = gm) := by
  obtain ⟨D, hown, h2, hs⟩ := h
  obtain ⟨w', hrun, r1, r2⟩ := hown.update EP.K EP.ht hc (EP.hkey x hx) (EP.hR b)
  have hM := (hown.tidy EP.K).isMap
  refine ⟨w', hrun, ⟨_, r1, fun y hy => ?_, ?_⟩, (Fr.grown r2).mono (fun q _ h => (Option.some.inj h).symm)⟩
  · by_cases hyx : y = x
    · subst hyx
      refine ⟨by rw [Maps.has_put_same hM (EP.kkey y)]; simp, fun b' zd hb => ?_⟩
      have hb : (if y = y then some b else f y) = some b' := hb
      rw [if_pos rfl] at hb
      cases hb
      rw [Maps.atKey_put_same hM (EP.kkey y)]
    · have hne : EP.kl y ≠ EP.kl x := fun h => hyx (EP.kinj _ _ h)
      refine ⟨by rw [Maps.has_put_other hne, (h2 y hy).1]; simp [hyx], fun b' zd hb => ?_⟩
      have hb : (if y = x then some b else f y) = some b' := hb
      rw [if_neg hyx] at hb
      rw [Maps.atKey_put_other hne]
      exact (h2 y hy).2 b' zd hb
  · rw [Maps.size_put (hown.tidy EP.K), (h2 x hx).1, hn, hs]
    rfl
end
theorem MapN.del {w : World} {gm c : Nat} {f : Int → Option Per} (h : MapN w gm c f) {x : Int} (hx : In64 x) {b : Per} (hf : f x = some b) (ty : TypeId) : ∃ w', (Builtin.delete_ #[48, 2] ty #[.map (some gm), .int .i64 x]).run Tryz.prog w = .ok (.tuple #[]) w' ∧ MapN w' gm (c - 1) (fun y => if y = x then none else f y) ∧ Fr w w' (fun k => k = gm) := by
  obtain ⟨D, hown, h2, hs⟩ := h
  obtain ⟨w', hrun, r1, r2⟩ := hown.drop EP.K EP.ht (EP.hkey x hx) ty
  have hsz := Maps.size_del (hown.tidy EP.K) (k := EP.kl x)
  rw [(h2 x hx).1, hf, hs] at hsz
  have hsz1 : Maps.size (D.del (EP.kl x)) = c - 1 := by simp at hsz; omega
  refine ⟨w', hrun, ⟨_, ?_, fun y hy => ?_, hsz1⟩, (Fr.grown r2.grown).mono (fun q _ h => (Option.some.inj h).symm)⟩
  · obtain ⟨es, clock, hb, F, hss, hD⟩ := r1
    refine ⟨es, clock, hb, F, ?_, hD⟩
    rw [hD] at hsz1
    simp only [Maps.size, length_sorted, List.length_map] at hsz1
    have : es.size = es.toList.length := by simp
    omega
  · by_cases hyx : y = x
    · subst hyx
      exact ⟨by rw [Maps.has_del_same]; simp, fun b' zd hb => by simp at hb⟩
    · have hne : EP.kl y ≠ EP.kl x := fun h => hyx (EP.kinj _ _ h)
      refine ⟨by rw [Maps.has_del_other hne, (h2 y hy).1]; simp [hyx], fun b' zd hb => ?_⟩
      have hb : (if y = x then none else f y) = some b' := hb
      rw [if_neg hyx] at hb
      rw [Maps.atKey_del_other hne]
      exact (h2 y hy).2 b' zd hb

def Itm.per (p : Itm) : Per := ⟨p.lo, p.hi⟩
/-- Which period a number has. -/
def px (L : List Itm) : Int → Option Per := fun i => (L.find? (fun q => decide (q.id = i))).map Itm.per
theorem px_none {L : List Itm} {i : Int} (h : ∀ q ∈ L, q.id ≠ i) : px L i = none := by
  unfold px
  rw [List.find?_eq_none.2 (fun q hq => by simp [h q hq])]
  rfl
theorem px_snoc {L : List Itm} {p : Itm} (h : ∀ q ∈ L, q.id ≠ p.id) : px (L ++ [p]) = fun y => if y = p.id then some p.per else px L y := by
  funext y
  by_cases hy : y = p.id
  · subst hy
    have h0 : L.find? (fun q => decide (q.id = p.id)) = none := List.find?_eq_none.2 (fun q hq => by simp [h q hq])
    unfold px
    rw [List.find?_append, h0]
    simp
  · have h2 : ¬ (p.id = y) := fun e => hy e.symm
    unfold px
    rw [List.find?_append]
    simp [hy, h2]
/-- No two have one number. -/
def Ids (L : List Itm) : Prop := L.Pairwise (fun a b => a.id ≠ b.id)
theorem Ids.eq {L : List Itm} (h : Ids L) {p q : Itm} (hp : p ∈ L) (hq : q ∈ L) (e : p.id = q.id) : p = q := by
  induction L with
  | nil => cases hp
  | cons a L ih =>
    obtain ⟨h1, h2⟩ := List.pairwise_cons.1 h
    rcases List.mem_cons.1 hp with hp1 | hp1
    · rcases List.mem_cons.1 hq with hq1 | hq1
      · rw [hp1, hq1]
      · rw [hp1] at e; exact absurd e (h1 q hq1)
    · rcases List.mem_cons.1 hq with hq1 | hq1
      · rw [hq1] at e; exact absurd e.symm (h1 p hp1)
      · exact ih h2 hp1 hq1
theorem px_some {L : List Itm} (h : Ids L) {p : Itm} (hp : p ∈ L) : px L p.id = some p.per := by
  unfold px
  obtain ⟨q, hq⟩ : ∃ q, L.find? (fun q => decide (q.id = p.id)) = some q := by
    cases e : L.find? (fun q => decide (q.id = p.id)) with
    | none => have := List.find?_eq_none.1 e p hp; simp at this
    | some q => exact ⟨q, rfl⟩
  have h1 := List.find?_some hq
  have h2 := List.mem_of_find?_eq_some hq
  simp only [decide_eq_true_eq] at h1
  rw [hq, h.eq h2 hp h1]
  rfl
/-- Without a number. -/
def without (L : List Itm) (i : Int) : List Itm := L.filter (fun q => decide (q.id ≠ i))
theorem px_without (L : List Itm) (i : Int) : px (without L i) = fun y => if y = i then none else px L y := by
  funext y
  by_cases hy : y = i
  · subst hy
    rw [if_pos rfl]
    exact px_none (fun q hq => by have := (List.mem_filter.1 hq).2; simpa using this)
  · rw [if_neg hy]
    unfold px without
    rw [List.find?_filter]
    congr 2
    funext q
    by_cases e : q.id = y
    · have : q.id ≠ i := fun h => hy (by rw [← e, h])
      simp [e, this, hy]
    · simp [e]
theorem without_length {L : List Itm} (h : Ids L) {p : Itm} (hp : p ∈ L) : (without L p.id).length = L.length - 1 := by
  induction L with
  | nil => cases hp
  | cons a L ih =>
    obtain ⟨h1, h2⟩ := List.pairwise_cons.1 h
    unfold without
    rcases List.mem_cons.1 hp with rfl | hp
    · rw [List.filter_cons_of_neg (by simp)]
      have : L.filter (fun q => decide (q.id ≠ p.id)) = L := List.filter_eq_self.2 (fun q hq => by simpa using (h1 q hq).symm)
      rw [this]; simp
    · rw [List.filter_cons_of_pos (by simpa using h1 p hp)]
      have := ih h2 hp
      unfold without at this
      have hl : 0 < L.length := List.length_pos_of_mem hp
      simp only [List.length_cons]
      omega
/-- What a tree of texts holds. -/
def Con (key : Itm → ByteArray) (F : List It) (L : List Itm) : Prop := ∀ x, x ∈ F ↔ ∃ p ∈ L, x = ⟨key p, p.id⟩
/-- A tree of periods; X: all its blocks; N: a bound of its size and of the ranges so far. -/
def RT (w : World) (base gt N : Nat) (L : List Itm) (X : Nat → Prop) : Prop :=
  ∃ (gm fb tb : Nat) (dF dT : Kd) (c1 c2 : Int), w.heap[gt]? = some (.cells #[.map (some gm), .pointer (some ⟨fb, 0, none⟩), .pointer (some ⟨tb, 0, none⟩)] 50 (0, 0)) ∧ MapN w gm L.length (px L) ∧
    TS base 16 c1 w fb dF ∧ TS base 16 c2 w tb dT ∧ Con keyF dF.F L ∧ Con keyT dT.F L ∧ (Ids L ∧ ∀ p ∈ L, p.Ok) ∧
    (0 ≤ c1 ∧ c1 ≤ (N : Int) ∧ 0 ≤ c2 ∧ c2 ≤ (N : Int) ∧ dF.F.length ≤ N ∧ dT.F.length ≤ N ∧ L.length ≤ N) ∧
    (gt ≠ gm ∧ ¬ TX fb dF gt ∧ ¬ TX tb dT gt ∧ ¬ TX fb dF gm ∧ ¬ TX tb dT gm ∧ ∀ k, TX fb dF k → ¬ TX tb dT k) ∧ (base ≤ gt ∧ base ≤ gm) ∧
    ∀ k, X k ↔ (k = gt ∨ k = gm ∨ TX fb dF k ∨ TX tb dT k)
theorem RT.fr {w w' : World} {base gt N : Nat} {L : List Itm} {X Z : Nat → Prop} (h : RT w base gt N L X) (hf : Fr w w' Z) (hz : ∀ k, X k → ¬ Z k) : RT w' base gt N L X := by
  obtain ⟨gm, fb, tb, dF, dT, c1, c2, h1, h2, h3, h4, h5, h6, h7, h8, h9, h10, h11⟩ := h
  exact ⟨gm, fb, tb, dF, dT, c1, c2, by rw [hf.block gt (Array.getElem?_eq_some_iff.1 h1).1 (hz gt ((h11 gt).2 (.inl rfl)))]; exact h1, h2.fr hf (hz gm ((h11 gm).2 (.inr (.inl rfl)))), h3.fr hf (fun k hk => hz k ((h11 k).2 (.inr (.inr (.inl hk))))), h4.fr hf (fun k hk => hz k ((h11 k).2 (.inr (.inr (.inr hk))))), h5, h6, h7, h8, h9, h10, h11⟩
theorem RT.lt {w : World} {base gt N : Nat} {L : List Itm} {X : Nat → Prop} (h : RT w base gt N L X) : ∀ k, X k → base ≤ k ∧ k < w.heap.size := by
  obtain ⟨gm, fb, tb, dF, dT, c1, c2, h1, h2, h3, h4, h5, h6, h7, h8, h9, h10, h11⟩ := h
  intro k hk
  rcases (h11 k).1 hk with rfl | rfl | hk | hk
  · exact ⟨h10.1, (Array.getElem?_eq_some_iff.1 h1).1⟩
  · exact ⟨h10.2, h2.mf.lt⟩
  · exact ⟨h3.base k hk, h3.lt k hk⟩
  · exact ⟨h4.base k hk, h4.lt k hk⟩
theorem RT.mono {w : World} {base gt N N' : Nat} {L : List Itm} {X : Nat → Prop} (h : RT w base gt N L X) (hn : N ≤ N') : RT w base gt N' L X := by
  obtain ⟨gm, fb, tb, dF, dT, c1, c2, h1, h2, h3, h4, h5, h6, h7, h8, h9, h10, h11⟩ := h
  exact ⟨gm, fb, tb, dF, dT, c1, c2, h1, h2, h3, h4, h5, h6, h7, by omega, h9, h10, h11⟩
end Go.Proofs.YtigkinakhijfoaaGreat

/- What the ranges of the two trees tell together, plainly. -/
namespace Go.Proofs.YtigkinakhijfoaaGreat
set_option linter.unusedVariables false
set_option linter.unusedSimpArgs false
set_option linter.unusedSectionVars false

theorem keyF_inj {p q : Itm} (hp : p.Ok) (hq : q.Ok) (h : keyF p = keyF q) : p.id = q.id := by
  have h3 := (txt3_inj h).2.2
  exact u64_inj hp.2.2.2 hq.2.2.2 h3
theorem keyT_inj {p q : Itm} (hp : p.Ok) (hq : q.Ok) (h : keyT p = keyT q) : p.id = q.id := by
  have h3 := (txt3_inj h).2.2
  exact u64_inj hp.2.2.2 hq.2.2.2 h3
theorem Con.put {key : Itm → ByteArray} {F F' : List It} {L : List Itm} {p : Itm} (h : Con key F L) (hF : ∀ x, x ∈ F' ↔ (x ∈ F ∧ x.key ≠ key p) ∨ x = ⟨key p, p.id⟩) (hne : ∀ q ∈ L, key q ≠ key p) : Con key F' (L ++ [p]) := by
  intro x
  rw [hF x, h x]
  constructor
  · rintro (⟨⟨q, hq, rfl⟩, _⟩ | rfl)
    · exact ⟨q, List.mem_append_left _ hq, rfl⟩
    · exact ⟨p, by simp, rfl⟩
  · rintro ⟨q, hq, rfl⟩
    rcases List.mem_append.1 hq with hq | hq
    · exact .inl ⟨⟨q, hq, rfl⟩, hne q hq⟩
    · rw [List.mem_singleton] at hq; subst hq; exact .inr rfl
theorem Con.cut {key : Itm → ByteArray} {F F' : List It} {L : List Itm} {p : Itm} (h : Con key F L) (hF : ∀ x, x ∈ F' ↔ x ∈ F ∧ x.key ≠ key p) (hI : Ids L) (hp : p ∈ L) (hinj : ∀ q ∈ L, key q = key p → q.id = p.id) : Con key F' (without L p.id) := by
  intro x
  rw [hF x, h x]
  unfold without
  constructor
  · rintro ⟨⟨q, hq, rfl⟩, hk⟩
    refine ⟨q, List.mem_filter.2 ⟨hq, ?_⟩, rfl⟩
    simp only [ne_eq, decide_eq_true_eq]
    intro e
    exact hk (by rw [hI.eq hq hp e])
  · rintro ⟨q, hq, rfl⟩
    obtain ⟨h1, h2⟩ := List.mem_filter.1 hq
    simp only [ne_eq, decide_eq_true_eq] at h2
    exact ⟨⟨q, h1, rfl⟩, fun e => h2 (hinj q h1 e)⟩
theorem Srt.nodup : ∀ {F : List It}, Srt F → F.Nodup
  | [], _ => List.nodup_nil
  | x :: F, h => by
    obtain ⟨h1, h2⟩ := h.cons
    rw [List.nodup_cons]
    exact ⟨fun hx => kl_irr (h1 x hx), Srt.nodup h2⟩
/-- The numbers that a range tells. -/
def idsR (fr to : ByteArray) (F : List It) : List Int := (rng fr to F).map It.val
theorem mem_rng {fr to : ByteArray} {F : List It} {x : It} : x ∈ rng fr to F ↔ x ∈ F ∧ inR fr to x.key = true := by
  unfold rng inR
  rw [List.mem_filter]
theorem Con.mem {key : Itm → ByteArray} {F : List It} {L : List Itm} (h : Con key F L) (fr to : ByteArray) (i : Int) : i ∈ idsR fr to F ↔ ∃ p ∈ L, p.id = i ∧ inR fr to (key p) = true := by
  unfold idsR
  rw [List.mem_map]
  constructor
  · rintro ⟨x, hx, rfl⟩
    obtain ⟨h1, h2⟩ := mem_rng.1 hx
    obtain ⟨p, hp, rfl⟩ := (h x).1 h1
    exact ⟨p, hp, rfl, h2⟩
  · rintro ⟨p, hp, rfl, h2⟩
    exact ⟨⟨key p, p.id⟩, mem_rng.2 ⟨(h _).2 ⟨p, hp, rfl⟩, h2⟩, rfl⟩
theorem Con.nodup {key : Itm → ByteArray} {F : List It} {L : List Itm} (h : Con key F L) (hs : Srt F) (hI : Ids L) (fr to : ByteArray) : (idsR fr to F).Nodup := by
  unfold idsR List.Nodup
  rw [List.pairwise_map]
  have h1 : (rng fr to F).Nodup := hs.nodup.sublist List.filter_sublist
  refine List.Pairwise.imp_of_mem ?_ h1
  intro x y hx hy hxy e
  obtain ⟨p, hp, rfl⟩ := (h x).1 (mem_rng.1 hx).1
  obtain ⟨q, hq, rfl⟩ := (h y).1 (mem_rng.1 hy).1
  exact hxy (by rw [hI.eq hp hq e])
/-- What Overlap brings together. -/
def gath (q : Per) (F T : List It) : List Int := (lefts q).flatMap (fun m => idsR (txt [m, q.lo + 1]) (txt [m + 1]) T) ++ (idsR (txt [q.lo]) (txt [q.hi]) F ++ (rights q).flatMap (fun m => idsR (txt [m]) (txt [m, q.hi]) F))
theorem srt_perm (L : List Int) : (srt L).Perm L := List.mergeSort_perm ..
theorem zs_nodup {L : List Nat} (h : L.Nodup) : (zs L).Nodup := by
  unfold zs List.Nodup
  rw [List.pairwise_map]
  exact List.Pairwise.imp (fun h e => h (by omega)) h
theorem mem_lefts {q : Per} (hq : rightB q = true) {m : Int} : m ∈ lefts q ↔ ∃ n ∈ ancs q.lo.toNat, m = (n : Int) ∧ m < q.lo := by
  unfold lefts
  rw [if_pos hq, (srt_perm _).mem_iff]
  unfold zs
  rw [List.mem_map]
  constructor
  · rintro ⟨n, hn, rfl⟩
    obtain ⟨h1, h2⟩ := List.mem_filter.1 hn
    unfold P28 at h2
    exact ⟨n, h1, rfl, by simpa using h2⟩
  · rintro ⟨n, hn, rfl, h⟩
    exact ⟨n, List.mem_filter.2 ⟨hn, by unfold P28; simpa using h⟩, rfl⟩
theorem mem_rights {q : Per} (hq : rightB q = true) {m : Int} : m ∈ rights q ↔ ∃ n ∈ ancs (q.hi - 1).toNat, m = (n : Int) ∧ q.hi ≤ m := by
  unfold rights
  rw [if_pos hq, (srt_perm _).mem_iff]
  unfold zs
  rw [List.mem_map]
  constructor
  · rintro ⟨n, hn, rfl⟩
    obtain ⟨h1, h2⟩ := List.mem_filter.1 hn
    unfold P29 at h2
    exact ⟨n, h1, rfl, by simpa using h2⟩
  · rintro ⟨n, hn, rfl, h⟩
    exact ⟨n, List.mem_filter.2 ⟨hn, by unfold P29; simpa using h⟩, rfl⟩
theorem lefts_nodup (q : Per) : (lefts q).Nodup := by
  unfold lefts
  split
  · exact (srt_perm _).nodup_iff.2 (zs_nodup ((ancs_nodup _).sublist List.filter_sublist))
  · exact List.nodup_nil
theorem rights_nodup (q : Per) : (rights q).Nodup := by
  unfold rights
  split
  · exact (srt_perm _).nodup_iff.2 (zs_nodup ((ancs_nodup _).sublist List.filter_sublist))
  · exact List.nodup_nil
theorem lefts_len (q : Per) : (lefts q).length ≤ 41 := by
  unfold lefts
  split
  · rw [(srt_perm _).length_eq, length_zs]
    exact Nat.le_trans (List.length_filter_le _ _) (ancs_len _)
  · simp
theorem rights_len (q : Per) : (rights q).length ≤ 41 := by
  unfold rights
  split
  · rw [(srt_perm _).length_eq, length_zs]
    exact Nat.le_trans (List.length_filter_le _ _) (ancs_len _)
  · simp
theorem ancs_le {x n : Nat} (hx : x < 2 ^ 40) (h : n ∈ ancs x) : n ≤ 2 ^ 40 := by
  rcases mem_ancs.1 h with ⟨_, rfl | ⟨j, h1, _, rfl⟩⟩
  · omega
  · exact anc_le hx (by omega)
section
variable {F T : List It} {L : List Itm} (hF : Con keyF F L) (hT : Con keyT T L) (hI : Ids L) (hO : ∀ p ∈ L, p.Ok)
include hF hT hI hO
theorem mem_left {q : Per} (hq : rightB q = true) {m : Int} (hm : m ∈ lefts q) (i : Int) : i ∈ idsR (txt [m, q.lo + 1]) (txt [m + 1]) T ↔ ∃ p ∈ L, p.id = i ∧ nd p = m ∧ q.lo < p.hi := by
  obtain ⟨n, hn, rfl, hlt⟩ := (mem_lefts hq).1 hm
  obtain ⟨r1, r2, r3⟩ := (rightB_iff q).1 hq
  have hle := ancs_le (by omega) hn
  rw [hT.mem]
  constructor
  · rintro ⟨p, hp, h1, h2⟩
    exact ⟨p, hp, h1, (inR_left (hO p hp) (by omega) (by omega)).1 h2⟩
  · rintro ⟨p, hp, h1, h2⟩
    exact ⟨p, hp, h1, (inR_left (hO p hp) (by omega) (by omega)).2 h2⟩
theorem mem_mid {q : Per} (hq : rightB q = true) (i : Int) : i ∈ idsR (txt [q.lo]) (txt [q.hi]) F ↔ ∃ p ∈ L, p.id = i ∧ q.lo ≤ nd p ∧ nd p < q.hi := by
  obtain ⟨r1, r2, r3⟩ := (rightB_iff q).1 hq
  rw [hF.mem]
  constructor
  · rintro ⟨p, hp, h1, h2⟩
    exact ⟨p, hp, h1, (inR_mid (hO p hp) (by omega) (by omega)).1 h2⟩
  · rintro ⟨p, hp, h1, h2⟩
    exact ⟨p, hp, h1, (inR_mid (hO p hp) (by omega) (by omega)).2 h2⟩
theorem mem_right {q : Per} (hq : rightB q = true) {m : Int} (hm : m ∈ rights q) (i : Int) : i ∈ idsR (txt [m]) (txt [m, q.hi]) F ↔ ∃ p ∈ L, p.id = i ∧ nd p = m ∧ p.lo < q.hi := by
  obtain ⟨n, hn, rfl, hlt⟩ := (mem_rights hq).1 hm
  obtain ⟨r1, r2, r3⟩ := (rightB_iff q).1 hq
  have hle := ancs_le (by omega) hn
  rw [hF.mem]
  constructor
  · rintro ⟨p, hp, h1, h2⟩
    exact ⟨p, hp, h1, (inR_right (hO p hp) (by omega) (by omega)).1 h2⟩
  · rintro ⟨p, hp, h1, h2⟩
    exact ⟨p, hp, h1, (inR_right (hO p hp) (by omega) (by omega)).2 h2⟩
/-- The numbers are those of the periods that overlap. -/
theorem mem_gath {q : Per} (hq : rightB q = true) (i : Int) : i ∈ gath q F T ↔ ∃ p ∈ L, p.id = i ∧ p.lo < q.hi ∧ q.lo < p.hi := by
  obtain ⟨r1, r2, r3⟩ := (rightB_iff q).1 hq
  unfold gath
  rw [List.mem_append, List.mem_append, List.mem_flatMap, List.mem_flatMap, mem_mid hF hT hI hO hq]
  have key : ∀ p ∈ L, (p.lo < q.hi ∧ q.lo < p.hi) ↔ ((nd p ∈ lefts q ∧ q.lo < p.hi) ∨ (q.lo ≤ nd p ∧ nd p < q.hi) ∨ (nd p ∈ rights q ∧ p.lo < q.hi)) := fun p hp => by
    obtain ⟨o1, o2, o3, _⟩ := hO p hp
    have h := over_iff (f := p.lo.toNat) (t := p.hi.toNat) (a := q.lo.toNat) (b := q.hi.toNat) (by omega) (by omega) (by omega)
    have e1 : (p.lo.toNat < q.hi.toNat ∧ q.lo.toNat < p.hi.toNat) ↔ (p.lo < q.hi ∧ q.lo < p.hi) := by omega
    rw [← e1, h, mem_lefts hq, mem_rights hq, show (q.hi - 1).toNat = q.hi.toNat - 1 by omega]
    have e2 : (forkN p.lo.toNat p.hi.toNat : Int) = nd p := rfl
    generalize forkN p.lo.toNat p.hi.toNat = n at *
    rw [← e2]
    constructor
    · rintro (⟨a1, a2, a3⟩ | ⟨a1, a2⟩ | ⟨a1, a2, a3⟩)
      · exact .inl ⟨⟨n, a1, rfl, by omega⟩, by omega⟩
      · exact .inr (.inl ⟨by omega, by omega⟩)
      · exact .inr (.inr ⟨⟨n, a1, rfl, by omega⟩, by omega⟩)
    · rintro (⟨⟨m, a1, a2, a3⟩, a4⟩ | ⟨a1, a2⟩ | ⟨⟨m, a1, a2, a3⟩, a4⟩)
      · obtain rfl : n = m := by omega
        exact .inl ⟨a1, by omega, by omega⟩
      · exact .inr (.inl ⟨by omega, by omega⟩)
      · obtain rfl : n = m := by omega
        exact .inr (.inr ⟨a1, by omega, by omega⟩)
  constructor
  · rintro (⟨m, hm, h⟩ | ⟨p, hp, h1, h2⟩ | ⟨m, hm, h⟩)
    · obtain ⟨p, hp, h1, rfl, h3⟩ := (mem_left hF hT hI hO hq hm i).1 h
      exact ⟨p, hp, h1, (key p hp).2 (.inl ⟨hm, h3⟩)⟩
    · exact ⟨p, hp, h1, (key p hp).2 (.inr (.inl h2))⟩
    · obtain ⟨p, hp, h1, rfl, h3⟩ := (mem_right hF hT hI hO hq hm i).1 h
      exact ⟨p, hp, h1, (key p hp).2 (.inr (.inr ⟨hm, h3⟩))⟩
  · rintro ⟨p, hp, h1, h2⟩
    rcases (key p hp).1 h2 with ⟨hm, h3⟩ | h3 | ⟨hm, h3⟩
    · exact .inl ⟨_, hm, (mem_left hF hT hI hO hq hm i).2 ⟨p, hp, h1, rfl, h3⟩⟩
    · exact .inr (.inl ⟨p, hp, h1, h3⟩)
    · exact .inr (.inr ⟨_, hm, (mem_right hF hT hI hO hq hm i).2 ⟨p, hp, h1, rfl, h3⟩⟩)
theorem gath_nodup (hsF : Srt F) (hsT : Srt T) {q : Per} (hq : rightB q = true) : (gath q F T).Nodup := by
  have same : ∀ {i : Int} {a b : Itm}, a ∈ L → b ∈ L → a.id = i → b.id = i → nd a = nd b := fun ha hb e1 e2 => by rw [hI.eq ha hb (e1.trans e2.symm)]
  have lt : ∀ m ∈ lefts q, m < q.lo := fun m hm => by obtain ⟨_, _, _, h⟩ := (mem_lefts hq).1 hm; exact h
  have rt : ∀ m ∈ rights q, q.hi ≤ m := fun m hm => by obtain ⟨_, _, _, h⟩ := (mem_rights hq).1 hm; exact h
  obtain ⟨r1, r2, r3⟩ := (rightB_iff q).1 hq
  unfold gath
  rw [List.nodup_append, List.nodup_append]
  refine ⟨?_, ⟨hF.nodup hsF hI _ _, ?_, ?_⟩, ?_⟩
  · unfold List.Nodup
    rw [List.pairwise_flatMap]
    refine ⟨fun m _ => hT.nodup hsT hI _ _, List.Pairwise.imp_of_mem ?_ (lefts_nodup q)⟩
    intro a b ha hb hab x hx y hy e
    subst e
    obtain ⟨p, hp, h1, rfl, _⟩ := (mem_left hF hT hI hO hq ha x).1 hx
    obtain ⟨p', hp', h1', rfl, _⟩ := (mem_left hF hT hI hO hq hb x).1 hy
    exact hab (same hp hp' h1 h1')
  · unfold List.Nodup
    rw [List.pairwise_flatMap]
    refine ⟨fun m _ => hF.nodup hsF hI _ _, List.Pairwise.imp_of_mem ?_ (rights_nodup q)⟩
    intro a b ha hb hab x hx y hy e
    subst e
    obtain ⟨p, hp, h1, rfl, _⟩ := (mem_right hF hT hI hO hq ha x).1 hx
    obtain ⟨p', hp', h1', rfl, _⟩ := (mem_right hF hT hI hO hq hb x).1 hy
    exact hab (same hp hp' h1 h1')
  · intro x hx y hy e
    subst e
    obtain ⟨p, hp, h1, h2, h3⟩ := (mem_mid hF hT hI hO hq x).1 hx
    obtain ⟨m, hm, hy⟩ := List.mem_flatMap.1 hy
    obtain ⟨p', hp', h1', rfl, _⟩ := (mem_right hF hT hI hO hq hm x).1 hy
    have := rt _ hm
    have := same hp hp' h1 h1'
    omega
  · intro x hx y hy e
    subst e
    obtain ⟨m, hm, hx⟩ := List.mem_flatMap.1 hx
    obtain ⟨p, hp, h1, rfl, _⟩ := (mem_left hF hT hI hO hq hm x).1 hx
    have := lt _ hm
    rcases List.mem_append.1 hy with hy | hy
    · obtain ⟨p', hp', h1', h2, h3⟩ := (mem_mid hF hT hI hO hq x).1 hy
      have := same hp hp' h1 h1'
      omega
    · obtain ⟨m', hm', hy⟩ := List.mem_flatMap.1 hy
      obtain ⟨p', hp', h1', rfl, _⟩ := (mem_right hF hT hI hO hq hm' x).1 hy
      have := rt _ hm'
      have := same hp hp' h1 h1'
      omega
end
/-- The numbers of the periods that overlap one, rising. -/
def OvA (L : List Itm) (q : Per) (A : List Int) : Prop := A.Pairwise (· < ·) ∧ ∀ i, i ∈ A ↔ ∃ p ∈ L, p.id = i ∧ p.lo < q.hi ∧ q.lo < p.hi
theorem srt_rising {C : List Int} (h : C.Nodup) : (srt C).Pairwise (· < ·) := by
  have h1 : (srt C).Pairwise (fun x y => decide (x ≤ y) = true) := List.pairwise_mergeSort (fun a b c h1 h2 => by simp at *; omega) (fun a b => by simp; omega) C
  have h2 : (srt C).Nodup := (srt_perm C).nodup_iff.2 h
  have h3 := List.Pairwise.and h1 h2
  exact List.Pairwise.imp (fun ⟨a, b⟩ => by simp only [decide_eq_true_eq] at a; omega) h3
/-- Rising lists with the same members are the same. -/
theorem rising_ext : ∀ {A B : List Int}, A.Pairwise (· < ·) → B.Pairwise (· < ·) → (∀ x, x ∈ A ↔ x ∈ B) → A = B
  | [], [], _, _, _ => rfl
  | [], y :: B, _, _, h => by have := (h y).2 (List.mem_cons_self ..); simp at this
  | x :: A, [], _, _, h => by have := (h x).1 (List.mem_cons_self ..); simp at this
  | x :: A, y :: B, ha, hb, h => by
    obtain ⟨a1, a2⟩ := List.pairwise_cons.1 ha
    obtain ⟨b1, b2⟩ := List.pairwise_cons.1 hb
    have hxy : x = y := by
      rcases List.mem_cons.1 ((h x).1 (List.mem_cons_self ..)) with e | e
      · exact e
      · rcases List.mem_cons.1 ((h y).2 (List.mem_cons_self ..)) with e2 | e2
        · exact e2.symm
        · have := b1 x e; have := a1 y e2; omega
    subst hxy
    congr 1
    refine rising_ext a2 b2 (fun z => ?_)
    constructor
    · intro hz
      rcases List.mem_cons.1 ((h z).1 (List.mem_cons_of_mem _ hz)) with e | e
      · subst e; have := a1 z hz; omega
      · exact e
    · intro hz
      rcases List.mem_cons.1 ((h z).2 (List.mem_cons_of_mem _ hz)) with e | e
      · subst e; have := b1 z hz; omega
      · exact e
theorem OvA.ext {L : List Itm} {q : Per} {A B : List Int} (ha : OvA L q A) (hb : OvA L q B) : A = B := rising_ext ha.1 hb.1 (fun x => (ha.2 x).trans (hb.2 x).symm)
end Go.Proofs.YtigkinakhijfoaaGreat

/- New. -/
namespace Go.Proofs.YtigkinakhijfoaaGreat
open Go.RowKit
set_option maxRecDepth 100000
set_option linter.unusedVariables false
set_option linter.unusedSimpArgs false

theorem new16 (w : World) : Calls Tryz.prog 14 #[.int .i64 16] w fun e w' => ∃ (tb : Nat) (d : Kd), e = .returned (.tuple #[.pointer (some ⟨tb, 0, none⟩), .int .i64 0]) ∧ TS w.heap.size 16 0 w' tb d ∧ d.F = [] ∧ Fr w w' (fun _ => False) := by
  refine (new_ts (w := w) 16).mono ?_
  rintro e w' ⟨hf, ⟨h, _⟩ | ⟨o, tb, d, h1, h2, h3, h4, h5, h6⟩⟩
  · omega
  · obtain rfl : o = 16 := by omega
    exact ⟨tb, d, h4, h5, h6, hf⟩
def NewR (base : Nat) (w : World) (e : Ending) (w' : World) : Prop := ∃ (gt : Nat) (X : Nat → Prop), e = .returned (.pointer (some ⟨gt, 0, none⟩)) ∧ RT w' base gt 0 [] X ∧ (∀ k, X k → w.heap.size ≤ k) ∧ Fr w w' (fun _ => False)
set_option maxHeartbeats 1000000 in
theorem rnew_any (w : World) (base : Nat) (hb : base ≤ w.heap.size) : Calls Tryz.prog 4 #[] w (NewR base w) := by
  have HN := hide (fun V : World => new16 V)
  have hmk : ∀ V : World, (Instr.makeMap 48 none).run Tryz.prog V = .ok (.map (some V.heap.size)) (V.alloc (.map #[] 0)) := fun V => rfl
  go_enter Tryz.func4, Tryz.ntmps4
  go_wp2_with fail
  refine (HN.out w).mono ?_
  rintro e w1 ⟨fb, dF, rfl, tF, eF, f1⟩
  have HTF := hide tF
  have HEF := hide eF
  have HF1 := hide f1
  clear tF eF f1
  go_wp2_with fail
  refine (HN.out w1).mono ?_
  rintro e w2 ⟨tb, dT, rfl, tT, eT, f2⟩
  have HRES : Hid (NewR base w (.returned (.pointer (some ⟨w2.heap.size + 1, 0, none⟩))) ((w2.alloc (.map #[] 0)).alloc (.cells #[.map (some w2.heap.size), .pointer (some ⟨fb, 0, none⟩), .pointer (some ⟨tb, 0, none⟩)] 50))) := hide (by
    have hz : (w2.alloc (.map #[] 0)).heap.size = w2.heap.size + 1 := by simp
    have b2 := heap_alloc_new (w2.alloc (.map #[] 0)) (.cells #[.map (some w2.heap.size), .pointer (some ⟨fb, 0, none⟩), .pointer (some ⟨tb, 0, none⟩)] 50)
    rw [hz] at b2
    have g1 := Fr.alloc w2 (.map #[] 0) (fun _ => False)
    have g2 := Fr.alloc (w2.alloc (.map #[] 0)) (.cells #[.map (some w2.heap.size), .pointer (some ⟨fb, 0, none⟩), .pointer (some ⟨tb, 0, none⟩)] 50) (fun _ => False)
    have g := (g1.trans g2).mono (Y := fun _ => False) (by simp)
    have s1 := HF1.out.size
    have s2 := f2.size
    have nF : ∀ k, TX fb dF k → w.heap.size ≤ k ∧ k < w1.heap.size := fun k hk => ⟨HTF.out.base k hk, HTF.out.lt k hk⟩
    have nT : ∀ k, TX tb dT k → w1.heap.size ≤ k ∧ k < w2.heap.size := fun k hk => ⟨tT.base k hk, tT.lt k hk⟩
    refine ⟨w2.heap.size + 1, fun k => k = w2.heap.size + 1 ∨ k = w2.heap.size ∨ TX fb dF k ∨ TX tb dT k, rfl, ⟨w2.heap.size, fb, tb, dF, dT, 0, 0, b2, (mapN_new w2).fr g2 (fun h => h), ((HTF.out.fr f2 (fun _ _ h => h)).fr g (fun _ _ h => h)).mono hb, (tT.fr g (fun _ _ h => h)).mono (by omega), ?_, ?_, ⟨List.Pairwise.nil, fun p hp => by cases hp⟩, ?_, ⟨by omega, fun h => by have := nF _ h; omega, fun h => by have := nT _ h; omega, fun h => by have := nF _ h; omega, fun h => by have := nT _ h; omega, fun k h h2 => by have := nF _ h; have := nT _ h2; omega⟩, ⟨by omega, by omega⟩, fun k => Iff.rfl⟩, ?_, ?_⟩
    · rw [HEF.out]; intro x; simp
    · rw [eT]; intro x; simp
    · rw [HEF.out, eT]; simp
    · rintro k (rfl | rfl | hk | hk)
      · omega
      · omega
      · exact (nF k hk).1
      · have := nT k hk; omega
    · exact ((HF1.out.trans f2).trans g).mono (by simp))
  clear tT eT f2 HTF HEF HF1 HN
  go_wp2
  go_ret
  exact HRES.out
end Go.Proofs.YtigkinakhijfoaaGreat
