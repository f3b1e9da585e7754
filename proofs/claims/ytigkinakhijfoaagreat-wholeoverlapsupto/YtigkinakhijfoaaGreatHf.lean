/- What a range tells, taken into a list. -/
import Derived.Test.YtigkinakhijfoaaGreatHe
import Derived.RangeFuncBox
import Derived.WalkKit
import Derived.Maps.AppendAt
import Derived.Maps.OwnIn
namespace Go.Proofs.YtigkinakhijfoaaGreat
open Go.RowKit Go.Shelf
set_option maxRecDepth 100000
set_option linter.unusedVariables false
set_option linter.unusedSimpArgs false
attribute [local go_sem] Oper.semAt_some

/-- What take leaves. -/
def TakeQ (base : Nat) (cur : Int) (w : World) (B tb bx : Nat) (d : Kd) (v : Value) (C : List Int) (fr to : ByteArray) (e : Ending) (w' : World) : Prop := ∃ v', e = .returned (.tuple #[]) ∧ TS base 16 (cur + 1) w' tb d.old ∧ Boxed w' bx 25 v' ∧ w'.ownsRow B 2 1 v' (C.length + (rng fr to d.F).length) ((C ++ idsR fr to d.F).map (Value.int .i64)) ∧ Fresh w v v' ∧ Fr w w' (fun k => k = tb ∨ k = bx ∨ v.ownBlock = some k)
set_option maxHeartbeats 8000000 in
theorem take_any {base : Nat} {cur : Int} {w : World} {B tb bx : Nat} {d : Kd} {v0 : Value} {C : List Int} (hT : TS base 16 cur w tb d) (hx0 : ∀ k, TX tb d k → k < B) (hBw : B ≤ w.heap.size) (hbx : B ≤ bx) (hbox : Boxed w bx 25 v0) (hrow : w.ownsRow B 2 1 v0 C.length (C.map (Value.int .i64))) (fr to : ByteArray) (hc0 : 0 ≤ cur) (hc1 : cur ≤ 4611686018427387904) (hlen : C.length + d.F.length ≤ 4398046511104) : Calls Tryz.prog 22 #[.pointer (some ⟨tb, 0, none⟩), .string fr, .string to, .pointer (some ⟨bx, 0, none⟩)] w (TakeQ base cur w B tb bx d v0 C fr to) := by
  obtain ⟨h', ht, hb1, hb2⟩ := hT
  have HRG := hide (range_any ht fr to hc0 hc1)
  have HX0 := hide hx0
  have HSRT := hide ht.srt
  have ho64 := ht.hi64
  have HBX := hide hbox
  have HROW := hide hrow
  have HBB := hide (And.intro hb1 hb2)
  have hrl : (rng fr to d.F).length ≤ d.F.length := List.length_filter_le ..
  obtain ⟨i0, hi, hz0, hz1, hz2⟩ := full2
  obtain ⟨G, hG⟩ : ∃ G, G = rng fr to d.F := ⟨_, rfl⟩
  have hgl : C.length + G.length ≤ 4398046511104 := by rw [hG]; omega
  have HG := hide hG
  have htb : tb < B := hx0 tb (.inl rfl)
  clear ht hx0 hbox hrow hb1 hb2 hlen hG hrl
  refine (callsIn_wide (n := 3)).1 ?_
  refine callsIn_of_wp_marks Tryz.func22 rfl trivial ?_ rfl
  simp only [Tryz.ntmps22, List.size_toArray, List.length_cons, List.length_nil, Nat.reduceAdd, Nat.reduceSub, Array.replicate_succ, Array.replicate_zero, List.push_toArray, List.append_toArray, List.nil_append, List.cons_append]
  gi_wp2_with fail
  refine ⟨trivial, ?_⟩
  refine (callsIn_wide.2 HRG.out).mono ?_
  rintro en w2 ⟨R, A, E, rfl, hT2, hR, hA, hE, hR1, hA1, hE1, f2⟩
  have hs2 := f2.size
  have HBX2 : Hid (Boxed w2 bx 25 v0) := hide ((f2.block bx HBX.out.lt (fun h => by omega)).trans HBX.out)
  have HROW2 := hide (ownsRow_fr HROW.out f2 (fun k hk h => by
    have h1 : k = tb := h
    rcases HROW.out.2 with ⟨h2, _⟩ | ⟨g, cap, cc, h2, hg, _⟩
    · rw [h2] at hk; cases hk
    · rw [h2] at hk; have : g = k := Option.some.inj hk; omega))
  have hdx : ∀ k, d.old.X k → k < B := fun k hk => HX0.out k (.inr hk)
  have hseq := range_stops hT2.sub hT2.srt ho64 HG.out hR hA hE (3 - 1)
  have HT2 := hide hT2
  have HF2 := hide f2
  clear HRG hT2 f2 hR1 hA1 hE1 hR hA hE
  gi_wp2_with fail
  refine wpIn_rangeFunc_ownG (w0 := w2) rfl (by omega) (gf := 41) (lb := #[.pointer (some ⟨R, 0, none⟩), .pointer (some ⟨A, 0, none⟩), .pointer (some ⟨E, 0, none⟩)]) rfl trivial (enters_of Tryz.func41 (by kernel_rfl) rfl)
    hseq (fun h k => KX.trans h k) (fun W l o o' hl _ _ _ => (Fr.grown (grownBy_putObj' W l o')).mono (fun k _ e hx => by have e := Option.some.inj e; have := hdx k hx; omega)) (RowKit.Below.refl _ _) (fun _ => rfl)
    (fun pre W => (∃ v, Boxed W bx 25 v ∧ W.ownsRow B 2 1 v (C.length + pre.length) ((C ++ pre.map (fun x => x.1.val)).map (Value.int .i64)) ∧ Fresh w2 v0 v) ∧ Fr w2 W (fun k => k = bx ∨ v0.ownBlock = some k))
    (fun _ _ _ => False)
    (OwnFrom.and (Own.from (holdsRow_own B bx 25 2 1 (fun pre : List (In G) => C.length + pre.length) (fun pre => (C ++ pre.map (fun x => x.1.val)).map (Value.int .i64)) (fun pre v => Fresh w2 v0 v)) _) (fun s W W' row hs hg hr => (hs.trans (Fr.grown hg)).mono (fun k hk h => h.elim id (fun e => by have := (hr k e).1; omega))))
    (fun _ _ _ _ _ hs _ _ => hs)
    ⟨⟨_, HBX2.out, by simpa using HROW2.out, .inl rfl⟩, Fr.refl _ _⟩
    (fun x => { tmps := #[.pointer (some ⟨tb, 0, none⟩), .string fr, .string to, .pointer (some ⟨bx, 0, none⟩), undef, undef, undef, undef, .int .i64 x.1.val, .pointer (some ⟨tb, 0, none⟩), .string fr, .string to, .func (.func 41) #[] #[.pointer (some ⟨R, 0, none⟩), .pointer (some ⟨A, 0, none⟩), .pointer (some ⟨E, 0, none⟩)], .string x.1.key, .int .i64 x.1.val, undef, undef, undef, undef], defers := [] }) ?assign ?body ?done ?stop
  case assign =>
    intro l x W K hK
    gi_wp2
    exact hK
  case body =>
    rintro l pre x W ⟨⟨v, hv, hrow, hfr⟩, hf⟩ hlt
    have hvc := hv.cell
    have hvf := hv.frozen
    have hBW : B ≤ W.heap.size := by have := hf.size; omega
    have hpl : C.length + pre.length < 4398046511104 := by omega
    have hvb : ∀ k, v.ownBlock = some k → B ≤ k := fun k hk => by
      rcases hrow.2 with ⟨h2, _⟩ | ⟨g, cap, cc, h2, hg, _⟩
      · rw [h2] at hk; cases hk
      · rw [h2] at hk; have : g = k := Option.some.inj hk; omega
    have HFSH := hide hfr
    have HFF := hide hf
    have HVB := hide hvb
    clear hfr hvb
    gi_wp2_with (gi_at_builtin; refine wpListIn_append_own_at _ rfl _ _ 25 rfl B 2 i0 (Value.int .i64 0) 1 8 Tryz.underlying25 hi hz0 hz1 hz2 rfl (by decide) _ _ _ rfl (hrow.alloc _) ⟨W.heap.size, 0, none⟩ 1 1 [.int .i64 x.1.val] rfl rfl (fun j u hu => by rw [Addr.add_mid, cell_of_row _ _ _ _ _ _ (heap_alloc_new W _)]; simpa using hu) (fun u hu => by simp at hu; subst hu; rfl) (by unfold maxLen; omega) (by omega) (by simp; omega) ?_; intro v' w3 hown' hgrow _ hnew; obtain ⟨g', cap', rfl⟩ := ownsRow_succ hown'; obtain ⟨hv1, hv2, hr2, hk2, hb2⟩ := hv.appended (by decide) hrow hBW hbx hown' hgrow; have hc1 := hv1.cell; have hf1 := hv1.frozen)
    have HG3 := hide hgrow
    clear hgrow
    obtain ⟨v', hve⟩ : ∃ v', v' = Value.slice (some ⟨g', 0, none⟩) (C.length + pre.length + 1) cap' := ⟨_, rfl⟩
    rw [← hve] at hnew hr2 hv2 hk2 ⊢
    have hF3 : Fr W w3 (fun k => v.ownBlock = some k) := ((Fr.alloc W _ (fun _ => False)).trans (Fr.grown HG3.out)).mono (fun k _ h => h.elim (fun h => h.elim) (fun h => h))
    have hF4 := hF3.trans (Fr.setCell w3 ⟨bx, 0, none⟩ v')
    have hnew' : v'.ownBlock = v.ownBlock ∨ ∃ k, v'.ownBlock = some k ∧ w2.heap.size ≤ k := by
      rcases hnew with h | h
      · exact .inl h
      · refine .inr ⟨_, h, ?_⟩
        have := HFF.out.size
        rw [World.size_alloc]; omega
    refine ⟨hk2.from _, hF4.mono (fun k _ h hx => ?_), ⟨_, hv2, ?_, ?_⟩, (HFF.out.trans hF4).mono (fun k hk h => ?_)⟩
    · have := hdx k hx
      rcases h with h | h
      · have := HVB.out k h; omega
      · have h : k = bx := h; omega
    · have e1 : C.length + (pre ++ [x]).length = C.length + pre.length + 1 := by simp; omega
      have e2 : (C ++ (pre ++ [x]).map (fun x => x.1.val)).map (Value.int .i64) = (C ++ pre.map (fun x => x.1.val)).map (Value.int .i64) ++ [.int .i64 x.1.val] := by simp
      rw [e1, e2]; exact hr2
    · rcases hnew' with h | ⟨k, h, h2⟩
      · rcases HFSH.out with h3 | ⟨k, h3, h4⟩
        · exact .inl (h.trans h3)
        · exact .inr ⟨k, h.trans h3, h4⟩
      · exact .inr ⟨k, h, h2⟩
    · rcases h with h | h | h
      · exact h
      · rcases HFSH.out with h3 | ⟨q, h3, h4⟩
        · exact .inr (h3 ▸ h)
        · rw [h3] at h; have : q = k := Option.some.inj h; omega
      · exact .inl h
  case done =>
    rintro D ys W hD hys ⟨⟨v, hv, hrow, hfr⟩, hf⟩ hK
    gi_wp2
    refine ⟨by simp, .inl ⟨_, _, rfl, run_takeDeferred hK, ?_⟩⟩
    have fp := fun o' => Fr.grown (grownBy_putObj' W D o')
    have hys2 : ys.map (fun x => x.1.val) = idsR fr to d.F := by
      have h1 := congrArg (List.map It.val) hys
      rw [List.map_map] at h1
      unfold idsR
      rw [← HG.out]
      exact h1
    have hyl : ys.length = G.length := by have h1 := congrArg List.length hys; rw [List.length_map] at h1; exact h1
    have hD2 := fp (Obj.deferred none)
    refine ⟨_, results_none rfl _ _ _, v, rfl, ⟨h', ?_, HBB.out.1, HBB.out.2⟩, ?_, ?_, ?_, ?_⟩
    · refine (HT2.out.fr hf (fun h => ?_) (fun k hk h => ?_)).fr hD2 (fun h => ?_) (fun k hk h => ?_)
      · rcases h with h | h
        · omega
        · rcases HROW2.out.2 with ⟨h2, _⟩ | ⟨g, cap, cc, h2, hg, _⟩
          · rw [h2] at h; cases h
          · rw [h2] at h; have : g = tb := Option.some.inj h; omega
      · have := hdx k hk
        rcases h with h | h
        · omega
        · rcases HROW2.out.2 with ⟨h2, _⟩ | ⟨g, cap, cc, h2, hg, _⟩
          · rw [h2] at h; cases h
          · rw [h2] at h; have : g = k := Option.some.inj h; omega
      · have : D = tb := Option.some.inj h; omega
      · have : D = k := Option.some.inj h; have := hdx k hk; omega
    · exact (hD2.block bx hv.lt (fun h => by have h : D = bx := Option.some.inj h; have := HBX2.out.lt; omega)).trans hv
    · have h1 := ownsRow_putObj hrow (Obj.deferred none) hK rfl
      rw [hys2, hyl, HG.out] at h1
      exact h1
    · rcases hfr with h | ⟨k, h, h2⟩
      · exact .inl h
      · exact .inr ⟨k, h, by omega⟩
    · refine (HF2.out.trans (hf.trans hD2)).mono (fun k hk h => ?_)
      rcases h with h | (h | h) | h
      · exact .inl h
      · exact .inr (.inl h)
      · exact .inr (.inr h)
      · have : D = k := Option.some.inj h; omega
  case stop =>
    rintro D c pre W _ _ h _
    exact h.elim
end Go.Proofs.YtigkinakhijfoaaGreat
