/- build. -/
import Derived.Test.YtigkinakhijfoaaGreatJPb
namespace Go.Proofs.YtigkinakhijfoaaGreat.Ps
open Go.RowKit Go.Sort
set_option maxRecDepth 100000
set_option linter.unusedVariables false
set_option linter.unusedSimpArgs false

theorem erase_perm : ∀ {L : List Pt} {i : Nat} {p : Pt}, L[i]? = some p → (p :: L.eraseIdx i).Perm L
  | [], i, p, h => by simp at h
  | x :: L, 0, p, h => by simp at h; subst h; exact List.Perm.refl _
  | x :: L, i + 1, p, h => by
    simp at h
    rw [List.eraseIdx_cons_succ]
    exact (List.Perm.swap _ _ _).trans ((erase_perm h).cons x)
theorem build_ok {L : List Pt} {top : Nat} {pt : Pt} (hL : L.Pairwise aheadP) (htop : L[top]? = some pt) (hmax : ∀ q ∈ L, ¬ aboveP q pt) (h : Nat) (f : Pt) (hf : (L.eraseIdx top)[h]? = some f ∨ L.eraseIdx top = []) (l r : PT) (hl : l.Ok) (hr : r.Ok) (pl : l.pts.Perm ((L.eraseIdx top).take h)) (pr : r.pts.Perm ((L.eraseIdx top).drop h)) : (PT.node pt f l r).Ok ∧ (PT.node pt f l r).pts.Perm L := by
  have hp : (l.pts ++ r.pts).Perm (L.eraseIdx top) := by
    have := List.Perm.append pl pr
    rw [List.take_append_drop] at this
    exact this
  have hsub : (L.eraseIdx top).Pairwise aheadP := hL.sublist (List.eraseIdx_sublist L top)
  have hmem : ∀ q, q ∈ L.eraseIdx top → q ∈ L := fun q hq => (List.eraseIdx_sublist L top).subset hq
  refine ⟨⟨fun q hq => hmax q (hmem q (hp.mem_iff.1 hq)), ?_, ?_, hl, hr⟩, (hp.cons pt).trans (erase_perm htop)⟩
  · intro q hq
    have hq1 := pl.mem_iff.1 hq
    rcases hf with hf | hf
    · obtain ⟨j, hj⟩ := List.getElem?_of_mem hq1
      rw [List.getElem?_take] at hj
      split at hj
      · rename_i hjh
        obtain ⟨a1, a2⟩ := List.getElem?_eq_some_iff.1 hj
        obtain ⟨b1, b2⟩ := List.getElem?_eq_some_iff.1 hf
        have := (List.pairwise_iff_getElem.1 hsub) j h a1 b1 hjh
        rw [a2, b2] at this
        exact this
      · cases hj
    · rw [hf] at hq1; simp at hq1
  · intro q hq ha
    have hq1 := pr.mem_iff.1 hq
    rcases hf with hf | hf
    · obtain ⟨j, hj⟩ := List.getElem?_of_mem hq1
      rw [List.getElem?_drop] at hj
      obtain ⟨a1, a2⟩ := List.getElem?_eq_some_iff.1 hj
      obtain ⟨b1, b2⟩ := List.getElem?_eq_some_iff.1 hf
      rcases Nat.eq_zero_or_pos j with h0 | h0
      · subst h0
        simp only [Nat.add_zero] at a2
        rw [a2] at b2
        subst b2
        unfold aheadP at ha; omega
      · have := (List.pairwise_iff_getElem.1 hsub) h (h + j) b1 a1 (by omega)
        rw [a2, b2] at this
        unfold aheadP at *; omega
    · rw [hf] at hq1; simp at hq1
theorem build_nil (w : World) (a : Option Addr) (cap : Nat) : Calls Tryz.prog 62 #[.slice a 0 cap] w fun e w' => e = .returned (.pointer none) ∧ w' = w := by
  go_enter Tryz.func62, Tryz.ntmps62
  go_wp2
  go_ret
  exact ⟨rfl, rfl⟩
theorem SegAt.part {w : World} {g off : Nat} {L : List Pt} (h : SegAt w g off L) (k : Nat) : SegAt w g off (L.take k) ∧ SegAt w g (off + k * 3) (L.drop k) := by
  refine ⟨⟨fun i p hp => ?_, h.z, h.lt⟩, ⟨fun i p hp => ?_, h.z, h.lt⟩⟩
  · rw [List.getElem?_take] at hp
    split at hp
    · exact h.p i p hp
    · cases hp
  · rw [List.getElem?_drop] at hp
    have := h.p (k + i) p hp
    rw [show off + k * 3 + i * 3 = off + (k + i) * 3 by omega]
    exact this
def BuildPost (w : World) (g off n base : Nat) (L : List Pt) (e : Ending) (w' : World) : Prop :=
  ∃ (t : PT) (v : Value) (S : Nat → Prop), e = .returned v ∧ TreeAt w' base t v S ∧ (∀ k, S k → w.heap.size ≤ k) ∧ t.Ok ∧ t.pts.Perm L ∧ SegFr w w' g off (off + n * 3)
set_option maxHeartbeats 8000000 in
theorem build_any (g base : Nat) : ∀ (n : Nat) (w : World) (off cap : Nat) (L : List Pt) (hs : SegAt w g off L) (hn : L.length = n) (hc : n ≤ cap) (hcap : cap ≤ 9223372036854775807) (hsort : L.Pairwise aheadP) (hbase : base ≤ w.heap.size),
    Calls Tryz.prog 62 #[.slice (some ⟨g, off, none⟩) n cap] w fun e w' => BuildPost w g off n base L e w' := by
  intro n
  induction n using Nat.strongRecOn with
  | _ n ih =>
    intro w off cap L hs hn hc hcap hsort hbase
    rcases Nat.eq_zero_or_pos n with h0 | h0
    · subst h0
      refine (build_nil w _ cap).mono ?_
      rintro e w' ⟨rfl, rfl⟩
      have : L = [] := List.eq_nil_of_length_eq_zero hn
      subst this
      exact ⟨.nil, _, fun _ => False, rfl, ⟨rfl, fun _ h => h⟩, fun _ h => h.elim, trivial, List.Perm.refl _, SegFr.refl _ _ _ _⟩
    · obtain ⟨m, hm⟩ : ∃ m, n = m + 1 := ⟨n - 1, by omega⟩
      have hnz : ¬ ((n : Int) = 0) := by omega
      have hnzb : ((n : Int) == 0) = false := by simp; omega
      have HS := hide hs
      have HIH := hide ih
      have HSO := hide hsort
      have HN := hide hn
      have HB := hide hbase
      have HM := hide hm
      have hgw := hs.lt
      have HGW := hide hgw
      clear hs ih hsort hn hbase hm hgw
      go_enter Tryz.func62, Tryz.ntmps62
      go_wp2_with fail
      go_loopw [3, 14] (fun tp ix wr => ∃ (j top : Nat) (pt : Pt), j ≤ n ∧ ix = .int .i64 (j : Int) ∧ tp = .int .i64 (top : Int) ∧ top < n ∧ L[top]? = some pt ∧ (∀ (q : Nat) (p : Pt), q < j → L[q]? = some p → ¬ aboveP p pt) ∧ Fr w wr (fun _ => False)) (fun _ ix _ => n - (intOf ix).toNat)
      case atStart =>
        obtain ⟨p0, hp0⟩ : ∃ p0, L[0]? = some p0 := ⟨_, List.getElem?_eq_getElem (by rw [HN.out]; exact h0)⟩
        exact ⟨0, 0, p0, Nat.zero_le _, rfl, rfl, h0, hp0, (fun q p hq => by omega), Fr.refl _ _⟩
      case round =>
        rename World => W
        obtain ⟨j, top, pt, hj, rfl, rfl, htop, hpt, hmax, hfw⟩ := hrel
        have HMX := hide hmax
        have HPT := hide hpt
        have HFW := hide hfw
        have HSW := hide (HS.out.fr hfw (fun h => h))
        obtain ⟨t1, t2, t3⟩ := HSW.out.p top pt hpt
        clear hmax hpt hfw
        rcases Nat.lt_or_ge j n with hlt | hge
        · obtain ⟨p, hp⟩ : ∃ p, L[j]? = some p := ⟨_, List.getElem?_eq_getElem (by rw [HN.out]; exact hlt)⟩
          obtain ⟨x1, x2, x3⟩ := HSW.out.p j p hp
          have HPJ := hide hp
          have FA := Fr.alloc W (.cells #[.int .i64 p.x, .int .i64 p.y, .int .i64 p.id] 35) (fun _ => False)
          have hbx := box_pt W p
          have HFA := hide ((HFW.out.trans FA).mono (Y := fun _ => False) (fun _ _ h => h.elim (fun h => h) (fun h => h)))
          have HS7 := hide (And.intro hbx (PtAt.fr ⟨t1, t2, t3⟩ FA (fun h => h)))
          have HAB := hide (fun U => above_any p pt U)
          generalize hab : decide (aboveP p pt) = b at HAB
          clear hp FA hbx
          unfold Pt.agg at HAB
          go_wp2_with fail
          generalize W.alloc (.cells #[.int .i64 p.x, .int .i64 p.y, .int .i64 p.id] 35) = V at *
          generalize W.heap.size = gb at *
          refine wp_region_K (fun z => decide (z < 5)) (fun U : World => PtAt U gb 0 p ∧ PtAt U g (off + top * 3) pt) (by kernel_rfl) ?_
          have hS : (fun U : World => PtAt U gb 0 p ∧ PtAt U g (off + top * 3) pt) V.drew := ⟨HS7.out.1.fr (Fr.drew _ (fun _ => False)) (fun h => h), HS7.out.2.fr (Fr.drew _ (fun _ => False)) (fun h => h)⟩
          have HFD := hide ((HFA.out.trans (Fr.drew V (fun _ => False))).mono (Y := fun _ => False) (fun _ _ h => h.elim (fun h => h) (fun h => h)))
          clear HS7 HFA x1 x2 x3 t1 t2 t3 HSW HFW
          generalize V.drew = U at *
          refine wpAnyK_takeTo 0 (some 19) (.agg #[.int .i64 p.x, .int .i64 p.y, .int .i64 p.id]) [5] rfl rfl (by kernel_rfl) (by kernel_rfl) (by kernel_rfl) (by kernel_rfl) (fun _ _ _ h => h) hS (Or.inl ⟨rfl, fun w1 hw1 => by obtain ⟨⟨q1, q2, q3⟩, q4, q5, q6⟩ := hw1; go_simp⟩) ?_
          simp only [Act.put, List.setIfInBounds_toArray, List.set_cons_zero, List.set_cons_succ]
          refine wpAnyK_takeTo 1 (some 20) (.slice (some ⟨g, off, none⟩) n cap) [3, 4, 5] rfl rfl (by kernel_rfl) (by kernel_rfl) (by kernel_rfl) (by kernel_rfl) (fun _ _ _ h => h) hS (Or.inl ⟨rfl, fun w1 hw1 => by obtain ⟨⟨q1, q2, q3⟩, q4, q5, q6⟩ := hw1; go_simp⟩) ?_
          simp only [Act.put, List.setIfInBounds_toArray, List.set_cons_zero, List.set_cons_succ]
          refine wpAnyK_takeTo 2 (some 21) (.int .i64 (top : Int)) [3, 4, 5] rfl rfl (by kernel_rfl) (by kernel_rfl) (by kernel_rfl) (by kernel_rfl) (fun _ _ _ h => h) hS (Or.inl ⟨rfl, fun w1 hw1 => by obtain ⟨⟨q1, q2, q3⟩, q4, q5, q6⟩ := hw1; go_simp⟩) ?_
          simp only [Act.put, List.setIfInBounds_toArray, List.set_cons_zero, List.set_cons_succ]
          refine wpAnyK_takeTo 3 (some 22) (.pointer (some ⟨g, off + top * 3, none⟩)) [4, 5] rfl rfl (by kernel_rfl) (by kernel_rfl) (by kernel_rfl) (by kernel_rfl) (fun _ _ _ h => h) hS (Or.inl ⟨rfl, fun w1 hw1 => by obtain ⟨⟨q1, q2, q3⟩, q4, q5, q6⟩ := hw1; go_simp⟩) ?_
          simp only [Act.put, List.setIfInBounds_toArray, List.set_cons_zero, List.set_cons_succ]
          refine wpAnyK_takeTo 4 (some 23) (.agg #[.int .i64 pt.x, .int .i64 pt.y, .int .i64 pt.id]) [5] rfl rfl (by kernel_rfl) (by kernel_rfl) (by kernel_rfl) (by kernel_rfl) (fun _ _ _ h => h) hS (Or.inl ⟨rfl, fun w1 hw1 => by obtain ⟨⟨q1, q2, q3⟩, q4, q5, q6⟩ := hw1; go_simp⟩) ?_
          simp only [Act.put, List.setIfInBounds_toArray, List.set_cons_zero, List.set_cons_succ]
          refine wpAnyK_one (i := 5) (by kernel_rfl) rfl rfl ?_
          refine wp_call_to (some 24) rfl 34 #[.agg #[.int .i64 p.x, .int .i64 p.y, .int .i64 p.id], .agg #[.int .i64 pt.x, .int .i64 pt.y, .int .i64 pt.id]] (by go_simp) (HAB.out _) ?_
          rintro e U2 ⟨rfl, f2⟩
          refine ⟨_, rfl, fun h => by simp at h, ?_⟩
          simp only [Act.put, List.setIfInBounds_toArray, List.set_cons_zero, List.set_cons_succ]
          have HF2 := hide ((HFD.out.trans f2).mono (Y := fun _ => False) (fun _ _ h => h.elim (fun h => h) (fun h => h)))
          clear hS HFD f2 HAB
          refine wpAnyK_done (by kernel_rfl) ?_ _
          cases b with
          | true =>
            have ha : aboveP p pt := of_decide_eq_true hab
            clear hab
            have HMN : Hid (∀ (q : Nat) (x : Pt), q < j + 1 → L[q]? = some x → ¬ aboveP x p) := hide (fun q x hq hx => by
              rcases Nat.lt_or_ge q j with h | h
              · exact aboveP_ntrans (HMX.out q x h hx) (aboveP_asymm ha)
              · have : q = j := by omega
                subst this
                rw [HPJ.out] at hx
                cases hx
                exact aboveP_irrefl _)
            clear ha
            go_wp2
            go_roundw
            case rel => exact ⟨j + 1, j, p, by omega, by go_num, rfl, hlt, HPJ.out, HMN.out, HF2.out⟩
            case measure => simp [intOf]; omega
          | false =>
            have ha : ¬ aboveP p pt := of_decide_eq_false hab
            clear hab
            have HMN : Hid (∀ (q : Nat) (x : Pt), q < j + 1 → L[q]? = some x → ¬ aboveP x pt) := hide (fun q x hq hx => by
              rcases Nat.lt_or_ge q j with h | h
              · exact HMX.out q x h hx
              · have : q = j := by omega
                subst this
                rw [HPJ.out] at hx
                cases hx
                exact ha)
            clear ha
            go_wp2
            go_roundw
            case rel => exact ⟨j + 1, top, pt, by omega, by go_num, rfl, htop, HPT.out, HMN.out, HF2.out⟩
            case measure => simp [intOf]; omega
        · have e1 : n = j := by omega
          subst e1
          have HMAX : Hid (∀ q ∈ L, ¬ aboveP q pt) := hide (fun q hq => by
            obtain ⟨i, hi⟩ := List.getElem?_of_mem hq
            exact HMX.out i q (by have := (List.getElem?_eq_some_iff.1 hi).1; rw [HN.out] at this; exact this) hi)
          clear HMX
          have HCD := hide (And.intro t1 (And.intro t2 t3))
          clear hge hj
          go_wp2_with fail
          refine wp_region_K (fun z => decide (z < 11)) (fun U : World => PtAt U g (off + top * 3) pt) (by kernel_rfl) ?_
          have hS : (fun U : World => PtAt U g (off + top * 3) pt) W.drew := PtAt.fr HCD.out (Fr.drew W (fun _ => False)) (fun h => h)
          have HFD := hide ((HFW.out.trans (Fr.drew W (fun _ => False))).mono (Y := fun _ => False) (fun _ _ h => h.elim (fun h => h) (fun h => h)))
          have HSD := hide (HSW.out.fr (Fr.drew W (fun _ => False)) (fun h => h))
          clear t1 t2 t3 HCD HSW HFW
          generalize W.drew = U at *
          refine wpAnyK_takeTo 0 (some 27) (.slice (some ⟨g, off, none⟩) n cap) [2, 3, 10, 11, 12] rfl rfl (by kernel_rfl) (by kernel_rfl) (by kernel_rfl) (by kernel_rfl) (fun _ _ _ h => h) hS (Or.inl ⟨rfl, fun w1 hw1 => by obtain ⟨q1, q2, q3⟩ := hw1; go_simp⟩) ?_
          simp only [Act.put, List.setIfInBounds_toArray, List.set_cons_zero, List.set_cons_succ]
          refine wpAnyK_takeTo 1 (some 28) (.int .i64 (top : Int)) [2, 3, 10, 11, 12] rfl rfl (by kernel_rfl) (by kernel_rfl) (by kernel_rfl) (by kernel_rfl) (fun _ _ _ h => h) hS (Or.inl ⟨rfl, fun w1 hw1 => by obtain ⟨q1, q2, q3⟩ := hw1; go_simp⟩) ?_
          simp only [Act.put, List.setIfInBounds_toArray, List.set_cons_zero, List.set_cons_succ]
          refine wpAnyK_takeTo 2 (some 29) (.pointer (some ⟨g, off + top * 3, none⟩)) [3, 10, 11, 12] rfl rfl (by kernel_rfl) (by kernel_rfl) (by kernel_rfl) (by kernel_rfl) (fun _ _ _ h => h) hS (Or.inl ⟨rfl, fun w1 hw1 => by obtain ⟨q1, q2, q3⟩ := hw1; go_simp⟩) ?_
          simp only [Act.put, List.setIfInBounds_toArray, List.set_cons_zero, List.set_cons_succ]
          refine wpAnyK_takeTo 3 (some 30) (.agg #[.int .i64 pt.x, .int .i64 pt.y, .int .i64 pt.id]) [10, 11, 12] rfl rfl (by kernel_rfl) (by kernel_rfl) (by kernel_rfl) (by kernel_rfl) (fun _ _ _ h => h) hS (Or.inl ⟨rfl, fun w1 hw1 => by obtain ⟨q1, q2, q3⟩ := hw1; go_simp⟩) ?_
          simp only [Act.put, List.setIfInBounds_toArray, List.set_cons_zero, List.set_cons_succ]
          refine wpAnyK_takeTo 4 (some 31) (.slice (some ⟨g, off, none⟩) n cap) [6, 7, 10, 11, 12] rfl rfl (by kernel_rfl) (by kernel_rfl) (by kernel_rfl) (by kernel_rfl) (fun _ _ _ h => h) hS (Or.inl ⟨rfl, fun w1 hw1 => by obtain ⟨q1, q2, q3⟩ := hw1; go_simp⟩) ?_
          simp only [Act.put, List.setIfInBounds_toArray, List.set_cons_zero, List.set_cons_succ]
          refine wpAnyK_takeTo 5 (some 32) (.int .i64 (top : Int)) [6, 7, 10, 11, 12] rfl rfl (by kernel_rfl) (by kernel_rfl) (by kernel_rfl) (by kernel_rfl) (fun _ _ _ h => h) hS (Or.inl ⟨rfl, fun w1 hw1 => by obtain ⟨q1, q2, q3⟩ := hw1; go_simp⟩) ?_
          simp only [Act.put, List.setIfInBounds_toArray, List.set_cons_zero, List.set_cons_succ]
          refine wpAnyK_takeTo 6 (some 33) (.pointer (some ⟨g, off + top * 3, none⟩)) [7, 10, 11, 12] rfl rfl (by kernel_rfl) (by kernel_rfl) (by kernel_rfl) (by kernel_rfl) (fun _ _ _ h => h) hS (Or.inl ⟨rfl, fun w1 hw1 => by obtain ⟨q1, q2, q3⟩ := hw1; go_simp⟩) ?_
          simp only [Act.put, List.setIfInBounds_toArray, List.set_cons_zero, List.set_cons_succ]
          refine wpAnyK_takeTo 7 (some 34) (.agg #[.int .i64 pt.x, .int .i64 pt.y, .int .i64 pt.id]) [10, 11, 12] rfl rfl (by kernel_rfl) (by kernel_rfl) (by kernel_rfl) (by kernel_rfl) (fun _ _ _ h => h) hS (Or.inl ⟨rfl, fun w1 hw1 => by obtain ⟨q1, q2, q3⟩ := hw1; go_simp⟩) ?_
          simp only [Act.put, List.setIfInBounds_toArray, List.set_cons_zero, List.set_cons_succ]
          refine wpAnyK_takeTo 8 (some 35) (.slice (some ⟨g, off, none⟩) n cap) [9, 10, 11, 12] rfl rfl (by kernel_rfl) (by kernel_rfl) (by kernel_rfl) (by kernel_rfl) (fun _ _ _ h => h) hS (Or.inl ⟨rfl, fun w1 hw1 => by obtain ⟨q1, q2, q3⟩ := hw1; go_simp⟩) ?_
          simp only [Act.put, List.setIfInBounds_toArray, List.set_cons_zero, List.set_cons_succ]
          refine wpAnyK_takeTo 9 (some 36) (.int .i64 (n : Int)) [10, 11, 12] rfl rfl (by kernel_rfl) (by kernel_rfl) (by kernel_rfl) (by kernel_rfl) (fun _ _ _ h => h) hS (Or.inl ⟨rfl, fun w1 hw1 => by obtain ⟨q1, q2, q3⟩ := hw1; go_simp⟩) ?_
          simp only [Act.put, List.setIfInBounds_toArray, List.set_cons_zero, List.set_cons_succ]
          refine wpAnyK_takeTo 10 (some 37) (.agg #[.int .i64 pt.x, .int .i64 pt.y, .int .i64 pt.id, .int .i64 pt.x, .int .i64 pt.y, .int .i64 pt.id, .pointer none, .pointer none, .int .i64 (n : Int)]) [11, 12] rfl rfl (by kernel_rfl) (by kernel_rfl) (by kernel_rfl) (by kernel_rfl) (fun _ _ _ h => h) hS (Or.inl ⟨rfl, fun w1 hw1 => by obtain ⟨q1, q2, q3⟩ := hw1; go_simp⟩) ?_
          simp only [Act.put, List.setIfInBounds_toArray, List.set_cons_zero, List.set_cons_succ]
          refine wpAnyK_one (i := 11) (by kernel_rfl) rfl rfl ?_
          obtain ⟨NB, hNB⟩ : ∃ NB : Obj, NB = .cells #[.int .i64 pt.x, .int .i64 pt.y, .int .i64 pt.id, .int .i64 pt.x, .int .i64 pt.y, .int .i64 pt.id, .pointer none, .pointer none, .int .i64 (n : Int)] 89 := ⟨_, rfl⟩
          have FA := Fr.alloc U NB (fun _ => False)
          have hnode : NodeAt (U.alloc NB) U.heap.size pt pt (.pointer none) (.pointer none) n := by unfold NodeAt; rw [heap_alloc_new]; rw [hNB]
          have HNO := hide hnode
          have HFE := hide ((HFD.out.trans FA).mono (Y := fun _ => False) (fun _ _ h => h.elim (fun h => h) (fun h => h)))
          have HSE := hide (HSD.out.fr FA (fun h => h))
          have HGE : Hid (w.heap.size ≤ U.heap.size) := hide HFD.out.size
          have HGU : Hid (g < U.heap.size) := hide HSD.out.lt
          have hUs : Hid ((U.alloc NB).heap.size = U.heap.size + 1) := hide (by simp)
          clear hS HFD HSD FA hnode
          go_simp
          rw [← hNB]
          clear hNB
          generalize U.alloc NB = U1 at *
          generalize U.heap.size = gn at *
          refine wpAnyK_one (i := 12) (by kernel_rfl) rfl rfl ?_
          go_simp
          refine wpAnyK_done (by kernel_rfl) ?_ _
          have HD : Hid (Calls Tryz.prog 96 #[.slice (some ⟨g, off, none⟩) n cap, .int .i64 (top : Int), .int .i64 ((top : Int) + 1)] U1 fun e w' => e = .returned (.slice (some ⟨g, off, none⟩) m cap) ∧ SegAt w' g off (L.eraseIdx top) ∧ SegFr U1 w' g off (off + n * 3)) := hide (by
            have h := delete_any HSE.out HN.out hc hcap top (top + 1) m htop rfl HM.out
            simpa only [Int.natCast_add, Int.natCast_one] using h)
          go_wp2_with fail
          refine HD.out.mono ?_
          rintro e U2 ⟨rfl, hseg, hfr⟩
          have HSG := hide hseg
          have HF2 : Hid (SegFr w U2 g off (off + n * 3)) := hide ((SegFr.ofFr HFE.out HGW.out (fun _ _ h => h)).trans hfr)
          have hgn : gn ≠ g := by have := HGU.out; omega
          have HN2 := hide (HNO.out.fr hfr.f (fun h => hgn h))
          have HU2 : Hid (gn + 1 ≤ U2.heap.size) := hide (by have := hfr.f.size; have := hUs.out; omega)
          obtain ⟨hf, hhf⟩ : ∃ hf : Nat, hf = m / 2 := ⟨_, rfl⟩
          have hq1 : (m : Int).tdiv 2 = (hf : Int) := by rw [Int.tdiv_eq_ediv_of_nonneg (by omega), hhf]; omega
          have hq2 : (m : Int) / 2 = (hf : Int) := by rw [hhf]; omega
          have HEL : Hid ((L.eraseIdx top).length = m) := hide (by rw [List.length_eraseIdx_of_lt (by rw [HN.out]; exact htop), HN.out]; have := HM.out; omega)
          clear hseg hfr HD HSE HNO HFE hUs
          have hmcap : m ≤ cap := by have := HM.out; omega
          have hhc : hf ≤ cap := by omega
          have hhm : hf ≤ m := by omega
          have hhc2 : ¬ (cap = hf) := by have := HM.out; omega
          rcases Nat.eq_zero_or_pos m with hm0 | hm0
          · have hl0 : ¬ ((hf : Int) < (m : Int)) := by omega
            have hl0b : decide ((hf : Int) < (m : Int)) = false := by simp; omega
            have HF0 : Hid ((L.eraseIdx top)[hf]? = some pt ∨ L.eraseIdx top = []) := hide (.inr (List.eq_nil_of_length_eq_zero (by rw [HEL.out]; exact hm0)))
            have HHF := hide hhf
            have HM0 := hide hm0
            clear hm0 hhf
            go_wp2_with fail
            refine wp_region_K (fun _ => true) (fun U : World => True) (by kernel_rfl) ?_
            have hS : (fun U : World => True) U2.drew := trivial
            have D0 := Fr.drew U2 (fun _ => False)
            have HSD := hide (HSG.out.fr D0 (fun h => h))
            have HND := hide (HN2.out.fr D0 (fun h => h))
            have HFD : Hid (SegFr w U2.drew g off (off + n * 3)) := hide (HF2.out.trans (SegFr.ofFr D0 HSG.out.lt (fun _ _ h => h)))
            have HUD : Hid (gn + 1 ≤ U2.drew.heap.size) := hide (Nat.le_trans HU2.out D0.size)
            clear D0 HSG HN2 HF2 HU2
            generalize U2.drew = Y at *
            refine wpAnyK_takeTo 0 (some 58) (.pointer (some ⟨gn, 0, none⟩)) [10, 11, 12, 13, 14, 15] rfl rfl (by kernel_rfl) (by kernel_rfl) (by kernel_rfl) (by kernel_rfl) (fun _ _ _ h => h) hS (Or.inl ⟨rfl, fun w1 hw1 => by go_simp⟩) ?_
            simp only [Act.put, List.setIfInBounds_toArray, List.set_cons_zero, List.set_cons_succ]
            refine wpAnyK_takeTo 1 (some 59) (.pointer (some ⟨gn, 0, none⟩)) [13, 14, 15] rfl rfl (by kernel_rfl) (by kernel_rfl) (by kernel_rfl) (by kernel_rfl) (fun _ _ _ h => h) hS (Or.inl ⟨rfl, fun w1 hw1 => by go_simp⟩) ?_
            simp only [Act.put, List.setIfInBounds_toArray, List.set_cons_zero, List.set_cons_succ]
            refine wpAnyK_takeTo 2 (some 60) (.slice (some ⟨g, off, none⟩) m cap) [4, 5, 9, 10, 11, 12, 13, 14, 15] rfl rfl (by kernel_rfl) (by kernel_rfl) (by kernel_rfl) (by kernel_rfl) (fun _ _ _ h => h) hS (Or.inl ⟨rfl, fun w1 hw1 => by go_simp⟩) ?_
            simp only [Act.put, List.setIfInBounds_toArray, List.set_cons_zero, List.set_cons_succ]
            refine wpAnyK_takeTo 3 (some 61) (.int .i64 (hf : Int)) [4, 5, 9, 10, 11, 12, 13, 14, 15] rfl rfl (by kernel_rfl) (by kernel_rfl) (by kernel_rfl) (by kernel_rfl) (fun _ _ _ h => h) hS (Or.inl ⟨rfl, fun w1 hw1 => by go_simp⟩) ?_
            simp only [Act.put, List.setIfInBounds_toArray, List.set_cons_zero, List.set_cons_succ]
            refine wpAnyK_takeTo 4 (some 62) (.slice (some ⟨g, off, none⟩) hf cap) [5, 9, 10, 11, 12, 13, 14, 15] rfl rfl (by kernel_rfl) (by kernel_rfl) (by kernel_rfl) (by kernel_rfl) (fun _ _ _ h => h) hS (Or.inl ⟨rfl, fun w1 hw1 => by go_simp⟩) ?_
            simp only [Act.put, List.setIfInBounds_toArray, List.set_cons_zero, List.set_cons_succ]
            refine wpAnyK_takeTo 6 (some 64) (.slice (some ⟨g, off, none⟩) m cap) [8, 9, 10, 11, 12, 13, 14, 15] rfl rfl (by kernel_rfl) (by kernel_rfl) (by kernel_rfl) (by kernel_rfl) (fun _ _ _ h => h) hS (Or.inl ⟨rfl, fun w1 hw1 => by go_simp⟩) ?_
            simp only [Act.put, List.setIfInBounds_toArray, List.set_cons_zero, List.set_cons_succ]
            refine wpAnyK_takeTo 7 (some 65) (.int .i64 (hf : Int)) [8, 9, 10, 11, 12, 13, 14, 15] rfl rfl (by kernel_rfl) (by kernel_rfl) (by kernel_rfl) (by kernel_rfl) (fun _ _ _ h => h) hS (Or.inl ⟨rfl, fun w1 hw1 => by go_simp⟩) ?_
            simp only [Act.put, List.setIfInBounds_toArray, List.set_cons_zero, List.set_cons_succ]
            refine wpAnyK_takeTo 8 (some 66) (.slice (some ⟨g, off + hf * 3, none⟩) (m - hf) (cap - hf)) [9, 10, 11, 12, 13, 14, 15] rfl rfl (by kernel_rfl) (by kernel_rfl) (by kernel_rfl) (by kernel_rfl) (fun _ _ _ h => h) hS (Or.inl ⟨rfl, fun w1 hw1 => by go_simp⟩) ?_
            simp only [Act.put, List.setIfInBounds_toArray, List.set_cons_zero, List.set_cons_succ]
            refine wpAnyK_one (i := 5) (by kernel_rfl) rfl rfl ?_
            have HP1 := hide (HSD.out.part hf)
            have hlen1 : ((L.eraseIdx top).take hf).length = hf := by rw [List.length_take, HEL.out]; omega
            have hsub : (L.eraseIdx top).Pairwise aheadP := HSO.out.sublist (List.eraseIdx_sublist L top)
            refine wp_call_to (some 63) rfl 62 #[.slice (some ⟨g, off, none⟩) hf cap] (by go_simp) (HIH.out hf (by have := HM.out; omega) Y off cap _ HP1.out.1 hlen1 hhc hcap (hsub.sublist (List.take_sublist _ _)) (Nat.le_trans HB.out HFD.out.f.size)) ?_
            rintro e Y1 ⟨tl, lv, Sl, rfl, htl, hSl, hokl, hpl, hfl⟩
            obtain ⟨la, rfl⟩ := htl.ptr
            refine ⟨_, rfl, fun _ => trivial, ?_⟩
            simp only [Act.put, List.setIfInBounds_toArray, List.set_cons_zero, List.set_cons_succ]
            have HP2 := hide (HP1.out.2.apart hfl (by right; omega))
            have HN4 := hide (HND.out.fr hfl.f (fun h => hgn h))
            have HF4 : Hid (SegFr w Y1 g off (off + n * 3)) := hide (HFD.out.trans (hfl.wide (Nat.le_refl _) (by have := HM.out; omega)))
            have HU4 : Hid (gn + 1 ≤ Y1.heap.size) := hide (Nat.le_trans HUD.out hfl.f.size)
            have HSl : Hid (∀ k, Sl k → gn + 1 ≤ k ∧ k < Y1.heap.size) := hide (fun k hk => ⟨Nat.le_trans HUD.out (hSl k hk), (htl.lt k hk).2⟩)
            have HTL := hide htl
            have HOL := hide (And.intro hokl hpl)
            clear hfl htl hSl hokl hpl HND HFD HUD HSD
            refine wpAnyK_one (i := 9) (by kernel_rfl) rfl rfl ?_
            have hlen2 : ((L.eraseIdx top).drop hf).length = m - hf := by rw [List.length_drop, HEL.out]
            refine wp_call_to (some 67) rfl 62 #[.slice (some ⟨g, off + hf * 3, none⟩) (m - hf) (cap - hf)] (by go_simp) (HIH.out (m - hf) (by have := HM.out; omega) Y1 (off + hf * 3) (cap - hf) _ HP2.out hlen2 (by omega) (by omega) (hsub.sublist (List.drop_sublist _ _)) (Nat.le_trans HB.out HF4.out.f.size)) ?_
            rintro e Y2 ⟨tr, rv, Sr, rfl, htr, hSr, hokr, hpr, hfr⟩
            obtain ⟨ra, rfl⟩ := htr.ptr
            refine ⟨_, rfl, fun _ => trivial, ?_⟩
            simp only [Act.put, List.setIfInBounds_toArray, List.set_cons_zero, List.set_cons_succ]
            have HN5 := hide (HN4.out.fr hfr.f (fun h => hgn h))
            have HTL5 := hide (HTL.out.fr hfr.f (fun k hk h => by have := HSl.out k hk; have := HGU.out; have h : k = g := h; omega))
            have HF5 : Hid (SegFr w Y2 g off (off + n * 3)) := hide (HF4.out.trans (hfr.wide (by omega) (by have := HM.out; omega)))
            have HU5 : Hid (gn + 1 ≤ Y2.heap.size) := hide (Nat.le_trans HU4.out hfr.f.size)
            have HSr : Hid (∀ k, Sr k → Y1.heap.size ≤ k) := hide hSr
            have HTR := hide htr
            have HOR := hide (And.intro hokr hpr)
            clear hfr htr hSr hokr hpr HN4 HF4 HTL
            obtain ⟨c0, c1, c2, c3, c4, c5, c6, c7, c8⟩ := HN5.out.c
            have z6 := HN5.out.frozen 6
            have z7 := HN5.out.frozen 7
            obtain ⟨Y3, hY3⟩ : ∃ Y3, Y3 = Y2.setCell ⟨gn, 6, none⟩ (.pointer la) := ⟨_, rfl⟩
            obtain ⟨Y4, hY4⟩ : ∃ Y4, Y4 = Y3.setCell ⟨gn, 7, none⟩ (.pointer ra) := ⟨_, rfl⟩
            have F3 : Fr Y2 Y3 (fun k => k = gn) := by rw [hY3]; exact Fr.setCell Y2 ⟨gn, 6, none⟩ _
            have F4 : Fr Y2 Y4 (fun k => k = gn) := by rw [hY4]; exact (F3.trans (Fr.setCell Y3 ⟨gn, 7, none⟩ _)).mono (fun _ _ h => h.elim (fun h => h) (fun h => h))
            have h6 : Y3.heap[gn]? = some (.cells #[.int .i64 pt.x, .int .i64 pt.y, .int .i64 pt.id, .int .i64 pt.x, .int .i64 pt.y, .int .i64 pt.id, .pointer la, .pointer none, .int .i64 (n : Int)] 89 (0, 0)) := by
              have h0 := HN5.out
              unfold NodeAt at h0
              rw [hY3, heap_setCell_here Y2 gn 6 (.pointer la) _ 89 (0, 0) h0]
              rfl
            have hN6 : NodeAt Y4 gn pt pt (.pointer la) (.pointer ra) n := by
              unfold NodeAt
              rw [hY4, heap_setCell_here Y3 gn 7 (.pointer ra) _ 89 (0, 0) h6]
              rfl
            have e7 : Y3.cell? ⟨gn, 7, none⟩ = some (.pointer none) := (cell_of_row _ _ _ _ _ _ h6).trans rfl
            have z8 : Y3.frozen? ⟨gn, 7, none⟩ = false := by simp [World.frozen?, h6]
            have HRES : Hid (BuildPost w g off n base L (.returned (.pointer (some ⟨gn, 0, none⟩))) Y4) := hide (by
              obtain ⟨q1, q2⟩ := build_ok HSO.out HPT.out HMAX.out hf pt HF0.out tl tr HOL.out.1 HOR.out.1 HOL.out.2 HOR.out.2
              have hsz : n = tl.size + tr.size + 1 := by
                rw [← tl.length_pts, ← tr.length_pts, HOL.out.2.length_eq, HOR.out.2.length_eq, hlen1, hlen2]
                have := HM.out; omega
              have hgY := HGU.out
              refine ⟨.node pt pt tl tr, _, fun k => k = gn ∨ Sl k ∨ Sr k, rfl, ⟨gn, _, _, Sl, Sr, rfl, Nat.le_trans HB.out HGE.out, by rw [← hsz]; exact hN6, HTL5.out.fr F4 (fun k hk h => by have := HSl.out k hk; have h : k = gn := h; omega), HTR.out.fr F4 (fun k hk h => by have := HSr.out k hk; have := HU4.out; have h : k = gn := h; omega), fun h => by have := HSl.out gn h; omega, fun h => by have := HSr.out gn h; have := HU4.out; omega, fun k h1 h2 => by have := HSl.out k h1; have := HSr.out k h2; omega, fun k => Iff.rfl⟩, fun k hk => ?_, q1, q2, ⟨⟨F4.os.trans HF5.out.f.os, F4.tape.trans HF5.out.f.tape, F4.output.trans HF5.out.f.output, Nat.le_trans HF5.out.f.size F4.size, fun k hk hne => ?_⟩, fun k hk => ?_, fun k => ?_⟩⟩
              · have := HGE.out
                rcases hk with hk | hk | hk
                · omega
                · have := HSl.out k hk; omega
                · have := HSr.out k hk; have := HU4.out; omega
              · rw [F4.block k (Nat.lt_of_lt_of_le hk HF5.out.f.size) (fun h => by have h : k = gn := h; have := HGE.out; omega)]
                exact HF5.out.f.block k hk hne
              · rw [cell_eq_fr F4 (by have := HU5.out; omega) (fun h => hgn h.symm)]; exact HF5.out.c k hk
              · rw [frozen_eq_fr F4 (by have := HU5.out; omega) (fun h => hgn h.symm)]; exact HF5.out.z k)
            have HY3 := hide hY3
            have HY4 := hide hY4
            clear hY3 hY4
            clear h6 hN6 F3 F4 HOL HOR HTL5 HTR HN5 HF5 HU5 HU4 HSl HSr hlen1 hlen2 hsub HP1 HP2 hS
            refine wpAnyK_one (i := 10) (by kernel_rfl) rfl rfl ?_
            go_simp
            refine wpAnyK_one (i := 11) (by kernel_rfl) rfl rfl ?_
            go_simp
            refine wpAnyK_one (i := 12) (by kernel_rfl) rfl rfl ?_
            go_simp
            rw [← HY3.out]
            refine wpAnyK_one (i := 13) (by kernel_rfl) rfl rfl ?_
            go_simp
            refine wpAnyK_one (i := 14) (by kernel_rfl) rfl rfl ?_
            go_simp
            refine wpAnyK_one (i := 15) (by kernel_rfl) rfl rfl ?_
            go_simp
            rw [← HY4.out]
            refine wpAnyK_done (by kernel_rfl) ?_ _
            clear c0 c1 c2 c3 c4 c5 c6 c7 c8 z6 z7 e7 z8 HY3 HY4
            go_wp2
            go_ret
            exact HRES.out
          · have hl0 : (hf : Int) < (m : Int) := by omega
            have hl0b : decide ((hf : Int) < (m : Int)) = true := by simp; omega
            obtain ⟨f, hff⟩ : ∃ f, (L.eraseIdx top)[hf]? = some f := ⟨_, List.getElem?_eq_getElem (by rw [HEL.out]; omega)⟩
            have HF0 : Hid ((L.eraseIdx top)[hf]? = some f ∨ L.eraseIdx top = []) := hide (.inl hff)
            obtain ⟨y1, y2, y3⟩ := HSG.out.p hf f hff
            obtain ⟨c0, c1, c2, c3, c4, c5, c6, c7, c8⟩ := HN2.out.c
            have z3 := HN2.out.frozen 3
            have z4 := HN2.out.frozen 4
            have z5 := HN2.out.frozen 5
            have HHF := hide hhf
            clear hff hhf
            obtain ⟨U3, hU3⟩ : ∃ U3, U3 = ((U2.setCell ⟨gn, 3, none⟩ (.int .i64 f.x)).setCell ⟨gn, 4, none⟩ (.int .i64 f.y)).setCell ⟨gn, 5, none⟩ (.int .i64 f.id) := ⟨_, rfl⟩
            have F3 : Fr U2 U3 (fun k => k = gn) := by rw [hU3]; exact (((Fr.setCell U2 ⟨gn, 3, none⟩ _).trans (Fr.setCell _ ⟨gn, 4, none⟩ _)).trans (Fr.setCell _ ⟨gn, 5, none⟩ _)).mono (fun k _ h => by rcases h with (h | h) | h; exact h; exact h; exact h)
            have HN3 : Hid (NodeAt U3 gn pt f (.pointer none) (.pointer none) n) := hide (by
              have h0 := HN2.out
              unfold NodeAt at h0 ⊢
              rw [hU3]
              have h1 := heap_setCell_here U2 gn 3 (.int .i64 f.x) _ 89 (0, 0) h0
              have h2 := heap_setCell_here _ gn 4 (.int .i64 f.y) _ 89 (0, 0) h1
              have h3 := heap_setCell_here _ gn 5 (.int .i64 f.id) _ 89 (0, 0) h2
              rw [h3]
              rfl)
            have HSG3 := hide (HSG.out.fr F3 (fun h => hgn h.symm))
            have HF3 : Hid (SegFr w U3 g off (off + n * 3)) := hide ⟨⟨F3.os.trans HF2.out.f.os, F3.tape.trans HF2.out.f.tape, F3.output.trans HF2.out.f.output, Nat.le_trans HF2.out.f.size F3.size, fun k hk hne => by
                rw [F3.block k (Nat.lt_of_lt_of_le hk HF2.out.f.size) (fun h => by have h : k = gn := h; have := HGE.out; omega)]
                exact HF2.out.f.block k hk hne⟩, fun k hk => by rw [cell_eq_fr F3 HSG.out.lt (fun h => hgn h.symm)]; exact HF2.out.c k hk, fun k => by rw [frozen_eq_fr F3 HSG.out.lt (fun h => hgn h.symm)]; exact HF2.out.z k⟩
            have HU3 : Hid (gn + 1 ≤ U3.heap.size) := hide (Nat.le_trans HU2.out F3.size)
            clear F3
            go_wp2_with fail
            rw [← hU3]
            clear hU3 y1 y2 y3 c0 c1 c2 c3 c4 c5 c6 c7 c8 z3 z4 z5 HN2 HSG HF2 HU2
            refine wp_region_K (fun _ => true) (fun U : World => True) (by kernel_rfl) ?_
            have hS : (fun U : World => True) U3.drew := trivial
            have D0 := Fr.drew U3 (fun _ => False)
            have HSD := hide (HSG3.out.fr D0 (fun h => h))
            have HND := hide (HN3.out.fr D0 (fun h => h))
            have HFD : Hid (SegFr w U3.drew g off (off + n * 3)) := hide (HF3.out.trans (SegFr.ofFr D0 HSG3.out.lt (fun _ _ h => h)))
            have HUD : Hid (gn + 1 ≤ U3.drew.heap.size) := hide (Nat.le_trans HU3.out D0.size)
            clear D0 HSG3 HN3 HF3 HU3
            generalize U3.drew = Y at *
            refine wpAnyK_takeTo 0 (some 58) (.pointer (some ⟨gn, 0, none⟩)) [10, 11, 12, 13, 14, 15] rfl rfl (by kernel_rfl) (by kernel_rfl) (by kernel_rfl) (by kernel_rfl) (fun _ _ _ h => h) hS (Or.inl ⟨rfl, fun w1 hw1 => by go_simp⟩) ?_
            simp only [Act.put, List.setIfInBounds_toArray, List.set_cons_zero, List.set_cons_succ]
            refine wpAnyK_takeTo 1 (some 59) (.pointer (some ⟨gn, 0, none⟩)) [13, 14, 15] rfl rfl (by kernel_rfl) (by kernel_rfl) (by kernel_rfl) (by kernel_rfl) (fun _ _ _ h => h) hS (Or.inl ⟨rfl, fun w1 hw1 => by go_simp⟩) ?_
            simp only [Act.put, List.setIfInBounds_toArray, List.set_cons_zero, List.set_cons_succ]
            refine wpAnyK_takeTo 2 (some 60) (.slice (some ⟨g, off, none⟩) m cap) [4, 5, 9, 10, 11, 12, 13, 14, 15] rfl rfl (by kernel_rfl) (by kernel_rfl) (by kernel_rfl) (by kernel_rfl) (fun _ _ _ h => h) hS (Or.inl ⟨rfl, fun w1 hw1 => by go_simp⟩) ?_
            simp only [Act.put, List.setIfInBounds_toArray, List.set_cons_zero, List.set_cons_succ]
            refine wpAnyK_takeTo 3 (some 61) (.int .i64 (hf : Int)) [4, 5, 9, 10, 11, 12, 13, 14, 15] rfl rfl (by kernel_rfl) (by kernel_rfl) (by kernel_rfl) (by kernel_rfl) (fun _ _ _ h => h) hS (Or.inl ⟨rfl, fun w1 hw1 => by go_simp⟩) ?_
            simp only [Act.put, List.setIfInBounds_toArray, List.set_cons_zero, List.set_cons_succ]
            refine wpAnyK_takeTo 4 (some 62) (.slice (some ⟨g, off, none⟩) hf cap) [5, 9, 10, 11, 12, 13, 14, 15] rfl rfl (by kernel_rfl) (by kernel_rfl) (by kernel_rfl) (by kernel_rfl) (fun _ _ _ h => h) hS (Or.inl ⟨rfl, fun w1 hw1 => by go_simp⟩) ?_
            simp only [Act.put, List.setIfInBounds_toArray, List.set_cons_zero, List.set_cons_succ]
            refine wpAnyK_takeTo 6 (some 64) (.slice (some ⟨g, off, none⟩) m cap) [8, 9, 10, 11, 12, 13, 14, 15] rfl rfl (by kernel_rfl) (by kernel_rfl) (by kernel_rfl) (by kernel_rfl) (fun _ _ _ h => h) hS (Or.inl ⟨rfl, fun w1 hw1 => by go_simp⟩) ?_
            simp only [Act.put, List.setIfInBounds_toArray, List.set_cons_zero, List.set_cons_succ]
            refine wpAnyK_takeTo 7 (some 65) (.int .i64 (hf : Int)) [8, 9, 10, 11, 12, 13, 14, 15] rfl rfl (by kernel_rfl) (by kernel_rfl) (by kernel_rfl) (by kernel_rfl) (fun _ _ _ h => h) hS (Or.inl ⟨rfl, fun w1 hw1 => by go_simp⟩) ?_
            simp only [Act.put, List.setIfInBounds_toArray, List.set_cons_zero, List.set_cons_succ]
            refine wpAnyK_takeTo 8 (some 66) (.slice (some ⟨g, off + hf * 3, none⟩) (m - hf) (cap - hf)) [9, 10, 11, 12, 13, 14, 15] rfl rfl (by kernel_rfl) (by kernel_rfl) (by kernel_rfl) (by kernel_rfl) (fun _ _ _ h => h) hS (Or.inl ⟨rfl, fun w1 hw1 => by go_simp⟩) ?_
            simp only [Act.put, List.setIfInBounds_toArray, List.set_cons_zero, List.set_cons_succ]
            refine wpAnyK_one (i := 5) (by kernel_rfl) rfl rfl ?_
            have HP1 := hide (HSD.out.part hf)
            have hlen1 : ((L.eraseIdx top).take hf).length = hf := by rw [List.length_take, HEL.out]; omega
            have hsub : (L.eraseIdx top).Pairwise aheadP := HSO.out.sublist (List.eraseIdx_sublist L top)
            refine wp_call_to (some 63) rfl 62 #[.slice (some ⟨g, off, none⟩) hf cap] (by go_simp) (HIH.out hf (by have := HM.out; omega) Y off cap _ HP1.out.1 hlen1 hhc hcap (hsub.sublist (List.take_sublist _ _)) (Nat.le_trans HB.out HFD.out.f.size)) ?_
            rintro e Y1 ⟨tl, lv, Sl, rfl, htl, hSl, hokl, hpl, hfl⟩
            obtain ⟨la, rfl⟩ := htl.ptr
            refine ⟨_, rfl, fun _ => trivial, ?_⟩
            simp only [Act.put, List.setIfInBounds_toArray, List.set_cons_zero, List.set_cons_succ]
            have HP2 := hide (HP1.out.2.apart hfl (by right; omega))
            have HN4 := hide (HND.out.fr hfl.f (fun h => hgn h))
            have HF4 : Hid (SegFr w Y1 g off (off + n * 3)) := hide (HFD.out.trans (hfl.wide (Nat.le_refl _) (by have := HM.out; omega)))
            have HU4 : Hid (gn + 1 ≤ Y1.heap.size) := hide (Nat.le_trans HUD.out hfl.f.size)
            have HSl : Hid (∀ k, Sl k → gn + 1 ≤ k ∧ k < Y1.heap.size) := hide (fun k hk => ⟨Nat.le_trans HUD.out (hSl k hk), (htl.lt k hk).2⟩)
            have HTL := hide htl
            have HOL := hide (And.intro hokl hpl)
            clear hfl htl hSl hokl hpl HND HFD HUD HSD
            refine wpAnyK_one (i := 9) (by kernel_rfl) rfl rfl ?_
            have hlen2 : ((L.eraseIdx top).drop hf).length = m - hf := by rw [List.length_drop, HEL.out]
            refine wp_call_to (some 67) rfl 62 #[.slice (some ⟨g, off + hf * 3, none⟩) (m - hf) (cap - hf)] (by go_simp) (HIH.out (m - hf) (by have := HM.out; omega) Y1 (off + hf * 3) (cap - hf) _ HP2.out hlen2 (by omega) (by omega) (hsub.sublist (List.drop_sublist _ _)) (Nat.le_trans HB.out HF4.out.f.size)) ?_
            rintro e Y2 ⟨tr, rv, Sr, rfl, htr, hSr, hokr, hpr, hfr⟩
            obtain ⟨ra, rfl⟩ := htr.ptr
            refine ⟨_, rfl, fun _ => trivial, ?_⟩
            simp only [Act.put, List.setIfInBounds_toArray, List.set_cons_zero, List.set_cons_succ]
            have HN5 := hide (HN4.out.fr hfr.f (fun h => hgn h))
            have HTL5 := hide (HTL.out.fr hfr.f (fun k hk h => by have := HSl.out k hk; have := HGU.out; have h : k = g := h; omega))
            have HF5 : Hid (SegFr w Y2 g off (off + n * 3)) := hide (HF4.out.trans (hfr.wide (by omega) (by have := HM.out; omega)))
            have HU5 : Hid (gn + 1 ≤ Y2.heap.size) := hide (Nat.le_trans HU4.out hfr.f.size)
            have HSr : Hid (∀ k, Sr k → Y1.heap.size ≤ k) := hide hSr
            have HTR := hide htr
            have HOR := hide (And.intro hokr hpr)
            clear hfr htr hSr hokr hpr HN4 HF4 HTL
            obtain ⟨c0, c1, c2, c3, c4, c5, c6, c7, c8⟩ := HN5.out.c
            have z6 := HN5.out.frozen 6
            have z7 := HN5.out.frozen 7
            obtain ⟨Y3, hY3⟩ : ∃ Y3, Y3 = Y2.setCell ⟨gn, 6, none⟩ (.pointer la) := ⟨_, rfl⟩
            obtain ⟨Y4, hY4⟩ : ∃ Y4, Y4 = Y3.setCell ⟨gn, 7, none⟩ (.pointer ra) := ⟨_, rfl⟩
            have F3 : Fr Y2 Y3 (fun k => k = gn) := by rw [hY3]; exact Fr.setCell Y2 ⟨gn, 6, none⟩ _
            have F4 : Fr Y2 Y4 (fun k => k = gn) := by rw [hY4]; exact (F3.trans (Fr.setCell Y3 ⟨gn, 7, none⟩ _)).mono (fun _ _ h => h.elim (fun h => h) (fun h => h))
            have h6 : Y3.heap[gn]? = some (.cells #[.int .i64 pt.x, .int .i64 pt.y, .int .i64 pt.id, .int .i64 f.x, .int .i64 f.y, .int .i64 f.id, .pointer la, .pointer none, .int .i64 (n : Int)] 89 (0, 0)) := by
              have h0 := HN5.out
              unfold NodeAt at h0
              rw [hY3, heap_setCell_here Y2 gn 6 (.pointer la) _ 89 (0, 0) h0]
              rfl
            have hN6 : NodeAt Y4 gn pt f (.pointer la) (.pointer ra) n := by
              unfold NodeAt
              rw [hY4, heap_setCell_here Y3 gn 7 (.pointer ra) _ 89 (0, 0) h6]
              rfl
            have e7 : Y3.cell? ⟨gn, 7, none⟩ = some (.pointer none) := (cell_of_row _ _ _ _ _ _ h6).trans rfl
            have z8 : Y3.frozen? ⟨gn, 7, none⟩ = false := by simp [World.frozen?, h6]
            have HRES : Hid (BuildPost w g off n base L (.returned (.pointer (some ⟨gn, 0, none⟩))) Y4) := hide (by
              obtain ⟨q1, q2⟩ := build_ok HSO.out HPT.out HMAX.out hf f HF0.out tl tr HOL.out.1 HOR.out.1 HOL.out.2 HOR.out.2
              have hsz : n = tl.size + tr.size + 1 := by
                rw [← tl.length_pts, ← tr.length_pts, HOL.out.2.length_eq, HOR.out.2.length_eq, hlen1, hlen2]
                have := HM.out; omega
              have hgY := HGU.out
              refine ⟨.node pt f tl tr, _, fun k => k = gn ∨ Sl k ∨ Sr k, rfl, ⟨gn, _, _, Sl, Sr, rfl, Nat.le_trans HB.out HGE.out, by rw [← hsz]; exact hN6, HTL5.out.fr F4 (fun k hk h => by have := HSl.out k hk; have h : k = gn := h; omega), HTR.out.fr F4 (fun k hk h => by have := HSr.out k hk; have := HU4.out; have h : k = gn := h; omega), fun h => by have := HSl.out gn h; omega, fun h => by have := HSr.out gn h; have := HU4.out; omega, fun k h1 h2 => by have := HSl.out k h1; have := HSr.out k h2; omega, fun k => Iff.rfl⟩, fun k hk => ?_, q1, q2, ⟨⟨F4.os.trans HF5.out.f.os, F4.tape.trans HF5.out.f.tape, F4.output.trans HF5.out.f.output, Nat.le_trans HF5.out.f.size F4.size, fun k hk hne => ?_⟩, fun k hk => ?_, fun k => ?_⟩⟩
              · have := HGE.out
                rcases hk with hk | hk | hk
                · omega
                · have := HSl.out k hk; omega
                · have := HSr.out k hk; have := HU4.out; omega
              · rw [F4.block k (Nat.lt_of_lt_of_le hk HF5.out.f.size) (fun h => by have h : k = gn := h; have := HGE.out; omega)]
                exact HF5.out.f.block k hk hne
              · rw [cell_eq_fr F4 (by have := HU5.out; omega) (fun h => hgn h.symm)]; exact HF5.out.c k hk
              · rw [frozen_eq_fr F4 (by have := HU5.out; omega) (fun h => hgn h.symm)]; exact HF5.out.z k)
            have HY3 := hide hY3
            have HY4 := hide hY4
            clear hY3 hY4
            clear h6 hN6 F3 F4 HOL HOR HTL5 HTR HN5 HF5 HU5 HU4 HSl HSr hlen1 hlen2 hsub HP1 HP2 hS
            refine wpAnyK_one (i := 10) (by kernel_rfl) rfl rfl ?_
            go_simp
            refine wpAnyK_one (i := 11) (by kernel_rfl) rfl rfl ?_
            go_simp
            refine wpAnyK_one (i := 12) (by kernel_rfl) rfl rfl ?_
            go_simp
            rw [← HY3.out]
            refine wpAnyK_one (i := 13) (by kernel_rfl) rfl rfl ?_
            go_simp
            refine wpAnyK_one (i := 14) (by kernel_rfl) rfl rfl ?_
            go_simp
            refine wpAnyK_one (i := 15) (by kernel_rfl) rfl rfl ?_
            go_simp
            rw [← HY4.out]
            refine wpAnyK_done (by kernel_rfl) ?_ _
            clear c0 c1 c2 c3 c4 c5 c6 c7 c8 z6 z7 e7 z8 HY3 HY4
            go_wp2
            go_ret
            exact HRES.out
end Go.Proofs.YtigkinakhijfoaaGreat.Ps
