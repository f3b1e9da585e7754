/- New, Len, Put. -/
import Derived.Test.YtigkinakhijfoaaGreatR
namespace Go.Proofs.YtigkinakhijfoaaGreat
open Go.RowKit
set_option maxRecDepth 100000
set_option linter.unusedVariables false
set_option linter.unusedSimpArgs false

theorem Left.from {o : Nat} {cur : Int} {w w1 W : World} {tb : Nat} {cnt : Int} {d : Kd} {T : List It → Prop} (h : Left o cur w1 tb cnt d T W) (hf : Fr w w1 (fun _ => False)) : Left o cur w tb cnt d T W := by
  obtain ⟨h', d', h1, h2, h3, h4, h5⟩ := h
  have hs := hf.size
  exact ⟨h', d', h1, h2, fun k hk => (h3 k hk).imp id (fun h => by omega), fun k hk => (h4 k hk).imp id (fun h => by omega), (hf.trans h5).mono (fun k _ h => h.elim (fun h => h.elim) id)⟩
theorem TreeB.count {w : World} {tb o : Nat} {cnt : Int} {root : Nat} {cur : Int} (h : TreeB w tb o cnt root cur) (n : Int) : TreeB (w.setCell ⟨tb, 1, none⟩ (.int .i64 n)) tb o n root cur := ⟨heap_setCell_here _ tb 1 _ _ _ _ h.box⟩
theorem Left.count {o : Nat} {cur : Int} {w W : World} {tb : Nat} {cnt : Int} {d : Kd} {T : List It → Prop} (h : Left o cur w tb cnt d T W) (n : Int) : Left o cur w tb n d T (W.setCell ⟨tb, 1, none⟩ (.int .i64 n)) ∧ W.cell? ⟨tb, 1, none⟩ = some (.int .i64 cnt) ∧ W.frozen? ⟨tb, 1, none⟩ = false := by
  obtain ⟨h', d', h1, h2, h3, h4, h5⟩ := h
  have f := Fr.setCell W ⟨tb, 1, none⟩ (.int .i64 n)
  refine ⟨⟨h', d', ⟨h1.box.count n, h1.sub.fr f (fun k hk e => h1.out (by have e : k = tb := e; rw [← e]; exact hk)), h1.srt, h1.out, h1.lo2, h1.hi64⟩, h2, h3, h4, (h5.trans f).mono (fun k _ h => h.elim id (fun e => .inl e))⟩, h1.box.cells.2.1, block_frozen h1.box.box _⟩
/-- What Put leaves. -/
def PutQ (o : Nat) (cur : Int) (w : World) (tb : Nat) (cnt : Int) (d : Kd) (s : ByteArray) (v : Int) (e : Ending) (w' : World) : Prop := ((∃ u, (⟨s, u⟩ : It) ∈ d.F) ∧ e = .returned (.bool true) ∧ Left o cur w tb cnt d (UpdR s v d.F) w') ∨ ((∀ x ∈ d.F, x.key ≠ s) ∧ e = .returned (.bool false) ∧ Left o cur w tb (cnt + 1) d (InsR s v d.F) w')
set_option maxHeartbeats 4000000 in
theorem put_any {o : Nat} {cur : Int} {h : Nat} {w : World} {d : Kd} {tb : Nat} {cnt : Int} (hT : TreeIs o cur w tb cnt h d) (s : ByteArray) (v : Int) (hc0 : 0 ≤ cnt) (hc1 : cnt ≤ 4611686018427387904) : Calls Tryz.prog 16 #[.pointer (some ⟨tb, 0, none⟩), .string s, .int .i64 v] w (PutQ o cur w tb cnt d s v) := by
  have HG := hide (get_any hT.box hT.sub hT.srt hT.hi64 s)
  have HT := hide hT
  clear hT
  go_enter Tryz.func16, Tryz.ntmps16
  go_wp2_with fail
  refine HG.out.mono ?_
  rintro e w1 ⟨f1, ⟨u, hu, rfl⟩ | ⟨hno, rfl⟩⟩
  · have HC := hide (change_any (HT.out.fr f1 (fun h => h) (fun _ _ h => h)) s v u hu)
    have HF1 := hide f1
    have HU := hide hu
    clear HG f1 hu
    go_wp2_with fail
    refine HC.out.mono ?_
    rintro e w2 ⟨rfl, hl⟩
    have HL := hide (hl.from HF1.out)
    clear HC hl
    go_wp2
    go_ret
    exact .inl ⟨⟨u, HU.out⟩, rfl, HL.out⟩
  · have HC := hide (insert_any (HT.out.fr f1 (fun h => h) (fun _ _ h => h)) s v hno)
    have HF1 := hide f1
    have HNO := hide hno
    clear HG f1 hno
    go_wp2_with fail
    refine HC.out.mono ?_
    rintro e w2 ⟨rfl, hl⟩
    obtain ⟨hl2, x1, z1⟩ := (hl.from HF1.out).count (cnt + 1)
    obtain ⟨W, hW⟩ : ∃ W, W = w2.setCell ⟨tb, 1, none⟩ (.int .i64 (cnt + 1)) := ⟨_, rfl⟩
    rw [← hW] at hl2
    have HL := hide hl2
    have HW := hide hW
    have hwr : wrap64 (cnt + 1) = cnt + 1 := by unfold wrap64; omega
    clear HC hl hl2 hW
    go_wp2_with (rw [← HW.out]; clear HW)
    go_ret
    exact .inr ⟨HNO.out, rfl, HL.out⟩
/-- What New tells. -/
def NewQ (order : Int) (w : World) (e : Ending) (w' : World) : Prop := Fr w w' (fun _ => False) ∧ (((order < 2 ∨ 64 < order) ∧ e = .returned (.tuple #[.pointer none, .int .i64 1])) ∨ ∃ (o tb : Nat) (d : Kd), order = (o : Int) ∧ e = .returned (.tuple #[.pointer (some ⟨tb, 0, none⟩), .int .i64 0]) ∧ TreeIs o 0 w' tb 0 0 d ∧ d.F = [] ∧ w.heap.size ≤ tb ∧ (∀ k, d.X k → w.heap.size ≤ k))
set_option maxHeartbeats 4000000 in
theorem new_any (order : Int) (w : World) : Calls Tryz.prog 14 #[.int .i64 order] w (NewQ order w) := by
  by_cases h2 : order < 2
  · have h2b : decide (order < 2) = true := by simpa using h2
    have H2 := hide h2
    go_enter Tryz.func14, Tryz.ntmps14
    go_wp2
    go_ret2
    exact ⟨Fr.refl _ _, .inl ⟨.inl H2.out, rfl⟩⟩
  have h2b : decide (order < 2) = false := by simpa using h2
  by_cases h64 : order > 64
  · have h64b : decide (order > 64) = true := by simpa using h64
    have H2 := hide h64
    go_enter Tryz.func14, Tryz.ntmps14
    go_wp2
    go_ret2
    exact ⟨Fr.refl _ _, .inl ⟨.inr H2.out, rfl⟩⟩
  have h64b : decide (order > 64) = false := by simpa using h64
  obtain ⟨o, rfl⟩ : ∃ o : Nat, order = (o : Int) := ⟨order.toNat, by omega⟩
  obtain ⟨B, hB⟩ : ∃ B, B = w.heap.size := ⟨_, rfl⟩
  obtain ⟨w1, hw1⟩ : ∃ w1, w1 = w.alloc (.cells #[.int .i64 0, .slice none 0 0, .slice none 0 0] 78) := ⟨_, rfl⟩
  have b1 : w1.heap[B]? = some (.cells #[.int .i64 0, .slice none 0 0, .slice none 0 0] 78 (0, 0)) := by rw [hw1, hB]; exact heap_alloc_new w _
  have f1 : Fr w w1 (fun _ => False) := by rw [hw1]; exact Fr.alloc w _ _
  obtain ⟨tb, htb⟩ : ∃ tb, tb = w1.heap.size := ⟨_, rfl⟩
  obtain ⟨w2, hw2⟩ : ∃ w2, w2 = w1.alloc (.cells #[.int .i64 (o : Int), .int .i64 0, .pointer (some ⟨B, 0, none⟩), .int .i64 0] 80) := ⟨_, rfl⟩
  have b2 : w2.heap[tb]? = some (.cells #[.int .i64 (o : Int), .int .i64 0, .pointer (some ⟨B, 0, none⟩), .int .i64 0] 80 (0, 0)) := by rw [hw2, htb]; exact heap_alloc_new w1 _
  have f2 : Fr w1 w2 (fun _ => False) := by rw [hw2]; exact Fr.alloc w1 _ _
  have hBl : B < w1.heap.size := (Array.getElem?_eq_some_iff.1 b1).1
  have hs1 := f1.size
  have rR : Raw w2 B 0 (.slice none 0 0) (.slice none 0 0) [] (([] : List Kd).map Kd.g) (fun k => k = B) := by
    refine ⟨by rw [f2.block B hBl (fun h => h)]; exact b1, World.ownsRow_nil w2 0 106 2, World.ownsRow_nil w2 0 74 1, fun k hk => ?_, fun k hk => by have := f2.size; omega⟩
    rcases hk with hk | hk | hk
    · exact hk
    · cases hk
    · cases hk
  have hnode := rR.node (fun x hx => by simp at hx) (fun x hx => by simp at hx) (fun i j x y hx => by simp at hx) []
  have HRES : Hid (NewQ (o : Int) w (.returned (.tuple #[.pointer (some ⟨tb, 0, none⟩), .int .i64 0])) w2) := hide ⟨f1.two f2, .inr ⟨o, tb, ⟨B, _, _, []⟩, rfl, rfl, ⟨⟨b2⟩, sub_iff.2 ⟨_, _, _, _, _, ⟨hnode, Nat.zero_le _, Nat.zero_le _, rfl⟩, rfl⟩, List.Pairwise.nil, fun hx => by
      rcases hx with hx | ⟨x, hx, _⟩
      · omega
      · simp at hx, by omega, by omega⟩, rfl, by omega, fun k hk => by
      rcases hk with hk | ⟨x, hx, _⟩
      · omega
      · simp at hx⟩⟩
  have HB := hide hB
  have HW1 := hide hw1
  have HTB := hide htb
  have HW2 := hide hw2
  clear hnode rR b1 b2 f1 f2 hBl hs1 hB hw1 htb hw2
  go_enter Tryz.func14, Tryz.ntmps14
  go_wp2_with (first | (rw [← HW1.out, ← HB.out]; clear HW1) | (rw [← HW2.out, ← HTB.out]; clear HW2))
  go_ret2
  exact HRES.out
end Go.Proofs.YtigkinakhijfoaaGreat
