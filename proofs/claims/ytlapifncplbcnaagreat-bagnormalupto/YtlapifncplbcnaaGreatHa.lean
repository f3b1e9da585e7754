/- The document's Has, edges of facts, Both. -/
import Derived.Test.YtlapifncplbcnaaGreatEg
import Derived.Test.YtlapifncplbcnaaGreatCv
namespace Go.Proofs.YtlapifncplbcnaaGreat
open Go.RowKit Go.Sort Go.Shelf
set_option maxRecDepth 100000
set_option linter.unusedVariables false
set_option linter.unusedSimpArgs false

set_option maxHeartbeats 1000000 in
theorem rhas_any (p : Per) (t : Int) (w : World) : Calls Tryz.prog 59 #[perV p, .int .i64 t] w fun e w' => e = .returned (.bool (hasB p t)) ∧ Fr w w' (fun _ => False) := by
  obtain ⟨lo, hi⟩ := p
  have HF := hide (Fr.alloc w (.cells #[.int .i64 lo, .int .i64 hi] 24) (fun _ => False))
  unfold perV
  by_cases h0 : lo ≤ t
  · have h2 : hasB ⟨lo, hi⟩ t = decide (t < hi) := by simp [hasB, h0]
    rw [h2]
    go_enter Tryz.func59, Tryz.ntmps59
    go_wp2
    go_ret
    exact ⟨rfl, HF.out⟩
  · have h2 : hasB ⟨lo, hi⟩ t = false := by simp [hasB]; omega
    rw [h2]
    go_enter Tryz.func59, Tryz.ntmps59
    go_wp2
    go_ret
    exact ⟨rfl, HF.out⟩
def perF (f : Ft) : Per := ⟨f.lo, f.hi⟩
theorem per_take {L : List Ft} {k : Nat} {x : Ft} (h : L[k]? = some x) : (L.take (k + 1)).map perF = (L.take k).map perF ++ [perF x] := by rw [take_snoc h, List.map_append]; rfl
set_option maxHeartbeats 4000000 in
theorem redgesF_any {w : World} {p : Option Addr} {c n : Nat} {L : List Ft} (hx : FIn w ⟨p, c, L⟩) (hn : n = L.length) (hl : n ≤ 549755813888) :
    Calls Tryz.prog 66 #[.slice p n c] w fun e w' => ∃ v E, e = .returned v ∧ Own elI w' v E ∧ IsEdges (L.map perF) E ∧ E.length ≤ 2 * n ∧ (∀ q, v.ownBlock = some q → w.heap.size ≤ q) ∧ Fr w w' (fun _ => False) := by
  have HX := hide hx
  have HN := hide hn
  clear hx hn
  go_enter Tryz.func66, Tryz.ntmps66
  go_wp2_with fail
  go_loopw [3, 4] (fun v i wr => ∃ k : Nat, i = .int .i64 (k : Int) ∧ k ≤ n ∧ Own elP wr v ((L.take k).map perF) ∧ (∀ q, v.ownBlock = some q → w.heap.size ≤ q) ∧ Fr w wr (fun _ => False)) (fun _ i _ => n - (intOf i).toNat)
  case atStart => exact ⟨0, rfl, Nat.zero_le _, Own.nil elP _, (by intro q hq; cases hq), Fr.refl _ _⟩
  case round =>
    rename World => w7
    obtain ⟨k, rfl, hk, ho, hb, hf⟩ := hrel
    have HO := hide ho
    have HB := hide hb
    have HF := hide hf
    clear ho hb hf
    by_cases hlt : k < n
    · obtain ⟨f, hf⟩ : ∃ f, L[k]? = some f := ⟨_, List.getElem?_eq_getElem (by rw [← HN.out]; exact hlt)⟩
      have HT := hide (per_take hf)
      obtain ⟨g, off, rfl, hg, c0, c1, c2⟩ := rowF_at (HX.out.row.fr HF.out (fun _ _ _ _ h => h)) hf
      have HLE := hide (show ((L.take k).map perF).length ≤ 549755813888 by rw [List.length_map, List.length_take]; omega)
      clear hf hg
      go_wp2_with (refine wpList_push elP rfl (.tmp 11) (.tmp 17) rfl u3 _ rfl HO.out [perF f] _ 1 1 rfl rfl (by first | rfl | simp) (by have := HLE.out; simp only [List.length_singleton]; omega) _ rfl ?_; intro v' wa ho hf hr2; have HOA := hide ho; have HFA := hide hf; have HRA := hide hr2; clear ho hf hr2)
      go_roundw
      case rel =>
        refine ⟨k + 1, by go_num, by omega, by rw [HT.out]; exact HOA.out, HRA.out.le HF.out.size HB.out, (HF.out.trans HFA.out).mono ?_⟩
        rintro q hq (h | h)
        · exact h
        · have := HB.out q h; omega
      case measure => simp [intOf]; omega
    · obtain rfl : k = n := by omega
      have hE : L.take k = L := by rw [HN.out, List.take_length]
      have ho := HO.out
      rw [hE] at ho
      obtain ⟨a, c2, hv, _⟩ := ho.shape
      have hrow := ho
      rw [hv] at hrow
      have HC := hide (redges_any a c2 (L.map perF) w7 hrow.row (by rw [List.length_map, ← HN.out]; exact hl))
      have hlen : (L.map perF).length = k := by rw [List.length_map, HN.out]
      rw [hlen] at HC hv
      subst hv
      clear hE ho hrow hlen HO
      go_wp2_with fail
      refine HC.out.mono ?_
      rintro e w8 ⟨v8, E, rfl, q1, q2, q3, q4, q5⟩
      have HE := hide (And.intro q1 (And.intro q2 (And.intro q3 (And.intro q4 q5))))
      clear q1 q2 q3 q4 q5 HC
      go_wp2
      go_ret
      obtain ⟨q1, q2, q3, q4, q5⟩ := HE.out
      exact ⟨_, E, rfl, q1, q2, q3, fun q hq => Nat.le_trans HF.out.size (q5 q hq), (HF.out.trans q4).mono (by simp)⟩
theorem fr_own {w1 w2 w3 : World} {g2 : Nat} (h : Fr w1 w2 (fun _ => False)) (hg : g2 = w1.heap.size) (hf : Fr w2 w3 (fun k => (Value.slice (some ⟨g2, 0, none⟩) 0 0).ownBlock = some k)) : Fr w1 w3 (fun _ => False) :=
  (h.trans hf).mono (by
    rintro q hq (h | h)
    · exact h
    · have h1 : g2 = q := Option.some.inj h
      omega)
theorem fresh_own {w1 w2 : World} {g2 : Nat} {v3 : Value} (h : Fr w1 w2 (fun _ => False)) (hg : g2 = w1.heap.size) (hr : Fresh w2 (.slice (some ⟨g2, 0, none⟩) 0 0) v3) : ∀ k, v3.ownBlock = some k → w1.heap.size ≤ k := fun k hk => by
  have hz := h.size
  rcases hr with h | ⟨q, h, h2⟩
  · rw [h] at hk
    have h1 : g2 = k := Option.some.inj hk
    omega
  · rw [h] at hk; injection hk with hk; omega
theorem fr_own2 {w1 w3 w4 : World} {v3 : Value} (h : Fr w1 w3 (fun _ => False)) (hr : ∀ k, v3.ownBlock = some k → w1.heap.size ≤ k) (hf : Fr w3 w4 (fun k => v3.ownBlock = some k)) : Fr w1 w4 (fun _ => False) :=
  (h.trans hf).mono (by
    rintro q hq (h | h)
    · exact h
    · have := hr q h; omega)
theorem Own.nilc {α : Type} {E : El α} {w : World} {p : Option Addr} {n c : Nat} {L : List α} (h : Own E w (.slice p n c) L) : p = none → c = 0 := by
  obtain ⟨a, c', e, _, h2, _⟩ := h.shape
  simp only [Value.slice.injEq] at e
  obtain ⟨rfl, _, rfl⟩ := e
  exact fun h => (h2 h).1
set_option maxHeartbeats 4000000 in
theorem both_any {w : World} {px py : Option Addr} {cx cy nx ny : Nat} {X Y : List Ft} (hx : FIn w ⟨px, cx, X⟩) (hy : FIn w ⟨py, cy, Y⟩) (hnx : nx = X.length) (hny : ny = Y.length) (hl : nx + ny ≤ 549755813888) :
    Calls Tryz.prog 18 #[.slice px nx cx, .slice py ny cy] w fun e w' => ∃ a c n, e = .returned (.slice a n c) ∧ n = (X ++ Y).length ∧ FIn w' ⟨a, c, X ++ Y⟩ ∧ Fr w w' (fun _ => False) := by
  have HX := hide hx
  have HY := hide hy
  have HNX := hide hnx
  have HNY := hide hny
  obtain ⟨w2, hw2⟩ : ∃ w2, w2 = w.alloc (.cells #[] 59) := ⟨_, rfl⟩
  obtain ⟨g2, hg2⟩ : ∃ g2, g2 = w.heap.size := ⟨_, rfl⟩
  have HO2 := hide (show Own elF w2 (.slice (some ⟨g2, 0, none⟩) 0 0) [] by rw [hw2, hg2]; exact Own.made w)
  have f2 : Fr w w2 (fun _ => False) := by rw [hw2]; exact Fr.alloc _ _ _
  have HF2 := hide f2
  have HX2 := hide (hx.fr f2)
  have HW2 := hide hw2
  have HG2 := hide hg2
  clear hx hy hnx hny f2 hw2 hg2
  go_enter Tryz.func18, Tryz.ntmps18
  go_wp2_with (first | (rw [← HW2.out, ← HG2.out]; refine wpList_cat elF rfl (.tmp 6) (.tmp 7) rfl (.slice (some ⟨g2, 0, none⟩) 0 0) [] rfl HO2.out px nx cx X HNX.out.symm rfl HX2.out.row HX2.out.nil (by simp only [List.length_nil]; omega) ?_; intro v3 w3 ho hf hr; have HO3 : Hid (Own elF w3 v3 X) := hide ho; have HF3 := hide (fr_own HF2.out HG2.out hf); have HR3 := hide (fresh_own HF2.out HG2.out hr); clear ho hf hr) | (refine wpList_cat elF rfl (.tmp 9) (.tmp 10) rfl v3 X rfl HO3.out py ny cy Y HNY.out.symm rfl (HY.out.row.fr HF3.out (fun _ _ _ _ h => h)) HY.out.nil (by have := HNX.out; omega) ?_; intro v4 w4 ho hf hr; have HO4 := hide ho; have HF4 := hide (fr_own2 HF3.out HR3.out hf); clear ho hf hr))
  go_ret
  obtain ⟨a4, c4, hv4, _⟩ := HO4.out.shape
  have ho := HO4.out
  rw [hv4] at ho
  refine ⟨a4, c4, _, by rw [hv4]; rfl, rfl, ⟨ho.row, ho.nilc, fun f hf => ?_⟩, HF4.out⟩
  rcases List.mem_append.1 hf with h | h
  · exact (HX.out.fr HF4.out).ok f h
  · exact (HY.out.fr HF4.out).ok f h
end Go.Proofs.YtlapifncplbcnaaGreat
