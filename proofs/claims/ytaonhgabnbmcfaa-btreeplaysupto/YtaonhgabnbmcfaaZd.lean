/- listed: all that a range tells, as a row. -/
import Derived.Test.YtaonhgabnbmcfaaZc
import Derived.RangeFuncBox
import Derived.WalkKit
import Derived.Maps.AppendAt
namespace Go.Proofs.Ytaonhgabnbmcfaa
open Go.RowKit Go.Shelf
set_option maxRecDepth 100000
set_option linter.unusedVariables false
set_option linter.unusedSimpArgs false
attribute [local go_sem] Oper.semAt_some

theorem full46 : ∃ i, Try.prog.info? 46 = some i ∧ i.zero = some (Value.agg #[.string ⟨#[]⟩, .int .i64 0]) ∧ i.size = 2 ∧ i.bytes = 24 := by
  have h : (Try.prog.info? 46).map (fun i => (i.zero, i.size, i.bytes)) = some (some (Value.agg #[.string ⟨#[]⟩, .int .i64 0]), 2, 24) := by kernel_rfl
  cases hi : Try.prog.info? 46 with
  | none => rw [hi] at h; cases h
  | some i =>
    rw [hi] at h
    simp only [Option.map_some, Option.some.injEq, Prod.mk.injEq] at h
    exact ⟨i, rfl, h.1, h.2.1, h.2.2⟩
/-- What listed tells. -/
def ListQ (o : Nat) (cur : Int) (w : World) (tb : Nat) (cnt : Int) (h : Nat) (d : Kd) (fr to : ByteArray) (e : Ending) (w' : World) : Prop := ∃ v, e = .returned v ∧ TreeIs o (cur + 1) w' tb cnt h d.old ∧ w'.ownsRow w.heap.size 46 2 v (rng fr to d.F).length (encI (rng fr to d.F)) ∧ Fr w w' (fun k => k = tb)
theorem Sub.xlt {o : Nat} {cur : Int} {h lo : Nat} {w : World} {d : Kd} (hs : Sub o cur h lo w d) : ∀ k, d.X k → k < w.heap.size := hs.x.2.1
set_option maxHeartbeats 8000000 in
theorem listed_any {o : Nat} {cur : Int} {h : Nat} {w : World} {d : Kd} {tb : Nat} {cnt : Int} (hT : TreeIs o cur w tb cnt h d) (fr to : ByteArray) (hc0 : 0 ≤ cur) (hc1 : cur ≤ 4611686018427387904) (hlen : d.F.length ≤ 4398046511104) : Calls Try.prog 15 #[.pointer (some ⟨tb, 0, none⟩), .string fr, .string to] w (ListQ o cur w tb cnt h d fr to) := by
  obtain ⟨B, hB⟩ : ∃ B, B = w.heap.size := ⟨_, rfl⟩
  obtain ⟨w1, hw1⟩ : ∃ w1, w1 = w.alloc (.cells #[.slice none 0 0] 29) := ⟨_, rfl⟩
  have f1 : Fr w w1 (fun _ => False) := by rw [hw1]; exact Fr.alloc w _ _
  have bS : Boxed w1 B 29 (.slice none 0 0) := by rw [hw1, hB]; exact Boxed.new w 29 _
  have HRG := hide (range_any (hT.fr f1 (fun h => h) (fun _ _ h => h)) fr to hc0 hc1)
  have HLT := hide hT.lt
  have HXL := hide hT.sub.xlt
  have HS1 := hide f1.size
  have HF1 := hide f1
  have HBS := hide bS
  have HSRT := hide hT.srt
  have ho64 := hT.hi64
  have HB := hide hB
  have H1 := hide hw1
  have HOUT := hide hT.out
  have hrl : (rng fr to d.F).length ≤ 4398046511104 := Nat.le_trans (List.length_filter_le ..) hlen
  obtain ⟨i0, hi, hz0, hz1, hz2⟩ := full46
  clear hT f1 bS hB hw1 hlen
  refine (callsIn_wide (n := 3)).1 ?_
  refine callsIn_of_wp_marks Try.func15 rfl trivial ?_ rfl
  simp only [Try.ntmps15, List.size_toArray, List.length_cons, List.length_nil, Nat.reduceAdd, Nat.reduceSub, Array.replicate_succ, Array.replicate_zero, List.push_toArray, List.append_toArray, List.nil_append, List.cons_append]
  gi_wp2_with (rw [← H1.out, ← HB.out]; clear H1)
  refine ⟨trivial, ?_⟩
  refine (callsIn_wide.2 HRG.out).mono ?_
  rintro en w2 ⟨R, A, C, rfl, hT2, hR, hA, hC, hR1, hA1, hC1, f2⟩
  have hBl : B < w1.heap.size := HBS.out.lt
  have hbt : ¬ B = tb := by have := HLT.out; have := HB.out; omega
  have hs2 := f2.size
  have bS2 : Boxed w2 B 29 (.slice none 0 0) := by
    have h1 : w2.heap[B]? = w1.heap[B]? := f2.block B hBl hbt
    exact h1.trans HBS.out
  have hn0 : B ≤ w2.heap.size := by omega
  have hdx : ∀ k, d.old.X k → k < B := fun k hk => by rw [HB.out]; exact HXL.out k hk
  have hseq := range_stops hT2.sub hT2.srt ho64 hR hA hC (3 - 1)
  have HT2 := hide hT2
  have HF2 := hide f2
  have HBL := hide hbt
  clear HRG hT2 f2 hR1 hA1 hC1 hR hA hC hbt
  gi_wp2_with fail
  refine wpIn_rangeFunc_ownG (w0 := w2) rfl (by omega) (gf := 27) (lb := #[.pointer (some ⟨R, 0, none⟩), .pointer (some ⟨A, 0, none⟩), .pointer (some ⟨C, 0, none⟩)]) rfl trivial (enters_of Try.func27 (by kernel_rfl) rfl)
    hseq (fun h k => KX.trans h k) (fun W l o o' hl _ _ _ => (Fr.grown (grownBy_putObj' W l o')).mono (fun k _ e hx => by have e := Option.some.inj e; have := hdx k hx; omega)) (RowKit.Below.refl _ _) (fun _ => rfl)
    (fun pre W => (∃ v, Boxed W B 29 v ∧ W.ownsRow B 46 2 v pre.length (encI pre) ∧ True) ∧ Fr w2 W (fun k => B ≤ k))
    (fun _ _ _ => False)
    (OwnFrom.and (Own.from (holdsRow_own B B 29 46 2 (fun pre : List It => pre.length) (fun pre => encI pre) (fun pre v => True)) _) (fun s W W' row hs hg hr => (hs.trans (Fr.grown hg)).mono (fun k _ hk => hk.elim id (fun e => by have := (hr k e).1; omega))))
    (fun _ _ _ _ _ hs _ _ => hs)
    ⟨⟨_, bS2, World.ownsRow_nil _ _ _ _, trivial⟩, Fr.refl _ _⟩
    (fun x => { tmps := #[.pointer (some ⟨tb, 0, none⟩), .string fr, .string to, undef, undef, undef, .slice none 0 0, .pointer (some ⟨B, 0, none⟩), .string x.key, .int .i64 x.val, .pointer (some ⟨tb, 0, none⟩), .string fr, .string to, .func (.func 27) #[] #[.pointer (some ⟨R, 0, none⟩), .pointer (some ⟨A, 0, none⟩), .pointer (some ⟨C, 0, none⟩)], .string x.key, .int .i64 x.val, undef, undef, undef, undef, undef, undef, undef], defers := [] }) ?assign ?body ?done ?stop
  case assign =>
    intro l x W K hK
    gi_wp2
    exact hK
  case body =>
    rintro l pre x W ⟨⟨v, hv, hrow, _⟩, hfr⟩ hlt
    have hvc := hv.cell
    have hvf := hv.frozen
    have hBW : B ≤ W.heap.size := by have := hfr.size; omega
    have hpl : pre.length ≤ 4398046511104 := by have h0 : (rng fr to d.old.F).length = (rng fr to d.F).length := rfl; omega
    gi_wp2_with (gi_at_builtin; refine wpListIn_append_own _ rfl _ _ 29 rfl B 46 i0 (Value.agg #[.string ⟨#[]⟩, .int .i64 0]) 2 24 Try.underlying29 hi hz0 hz1 hz2 rfl (by decide) _ _ _ rfl (hrow.alloc _) ⟨W.heap.size, 0, none⟩ 1 1 [.string x.key, .int .i64 x.val] rfl rfl (fun j u hu => by rw [Addr.add_mid, cell_of_row _ _ _ _ _ _ (heap_alloc_new W _)]; simpa using hu) (fun u hu => by simp at hu; rcases hu with rfl | rfl <;> rfl) (by unfold maxLen; omega) (by omega) (by simp; omega) ?_; intro v' w3 hown' hgrow _; obtain ⟨g', cap', rfl⟩ := ownsRow_succ hown'; obtain ⟨hv1, hv2, hr2, hk2, hb2⟩ := hv.appended (by decide) hrow hBW (Nat.le_refl _) hown' hgrow; have hc1 := hv1.cell; have hf1 := hv1.frozen)
    exact ⟨hk2.from _, (show Fr _ _ _ from ⟨hb2.os, hb2.tape, hb2.output, hb2.size, fun k hk hx => hb2.block k (hdx k (Classical.not_not.1 hx))⟩), ⟨_, hv2, by rw [List.length_append, encI_append]; exact hr2, trivial⟩, hfr.two ⟨hb2.os, hb2.tape, hb2.output, hb2.size, fun k hk hx => hb2.block k (by omega)⟩⟩
  case done =>
    rintro D ys W hD rfl ⟨⟨v, hv, hrow, _⟩, hfr⟩ hK
    have hvc := hv.cell
    gi_wp2
    refine ⟨by simp, .inl ⟨_, _, rfl, run_takeDeferred hK, ?_⟩⟩
    have fp := fun o' => Fr.grown (grownBy_putObj' W D o')
    have hBD : B ≤ D := by omega
    have htl : tb < B := by have := HLT.out; have := HB.out; omega
    have fin : ∀ W', Fr W W' (fun k => some D = some k) → TreeIs o (cur + 1) W' tb cnt h d.old ∧ Fr w W' (fun k => k = tb) := fun W' hf => by
      have hz : ∀ k, k < B → ¬ (some D = some k) := fun k hk e => by have e := Option.some.inj e; omega
      refine ⟨(HT2.out.fr hfr (by omega) (fun k hk h => by have := hdx k hk; omega)).fr hf (hz _ htl) (fun k hk => hz k (hdx k hk)), ?_⟩
      refine (((HF1.out.mono (Y := fun k => k = tb) (fun _ _ h => h.elim)).two HF2.out).trans (hfr.trans hf)).mono (fun k hk h => ?_)
      have hkB : k < B := by rw [HB.out]; exact hk
      rcases h with h | h | h
      · exact h
      · omega
      · exact absurd h (hz k hkB)
    obtain ⟨q1, q2⟩ := fin _ (fp _)
    exact ⟨_, results_tmp rfl _ _ _, v, rfl, q1, by rw [← HB.out]; exact ownsRow_putObj hrow _ hK rfl, q2⟩
  case stop =>
    rintro D c pre W _ _ h _
    exact h.elim
end Go.Proofs.Ytaonhgabnbmcfaa
