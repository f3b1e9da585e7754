/- The tree as a whole: New, Len, Find. -/
import Derived.Test.YtigkinakhijfoaaGreatPsK
import Derived.Test.YtigkinakhijfoaaGreatMa
import Derived.Maps.AppendAt
namespace Go.Proofs.YtigkinakhijfoaaGreat.Ps
open Go.RowKit Go.Sort
set_option maxRecDepth 100000
set_option linter.unusedVariables false
set_option linter.unusedSimpArgs false

def rdI (v : Value) : Option (DataW Unit × List MemPlace) := match v with
  | .int .i64 a => some (.lit (.int .i64 a), [])
  | _ => none
/-- Numbers by numbers. -/
def EP : Elem Int Int where
  t := 51
  k := 2
  e := 2
  ht := Tryz.underlying51
  K := Maps.int_keyed Tryz.underlying2
  kv := fun x => .int .i64 x
  kl := fun x => .int .i64 x
  ok := In64
  hkey := fun x hx => Maps.keyOf_int_mk Tryz.underlying2 hx.wf
  kinv := fun v l h => by obtain ⟨x, h1, h2, h3⟩ := Maps.keyOf_int_inv Tryz.underlying2 h; exact ⟨x, h1, h2, in64_of h3⟩
  kinj := fun x y h => by injection h
  vinj := fun x y h => by injection h
  kkey := fun x => trivial
  R := rdI
  val := fun x => .int .i64 x
  dat := fun x => .lit (.int .i64 x)
  z := 0
  hz := fun w => by simp [zeroValue, typeInfo]; kernel_rfl
  hR := fun b => rfl
  inv := fun v y h => by
    unfold rdI at h
    split at h
    · cases h; exact ⟨_, rfl, rfl⟩
    · cases h
  inj := fun a b h => by simpa using h
/-- A map of just so many entries. -/
def MapN (w : World) (gm c : Nat) (f : Int → Option Int) : Prop := ∃ D : DataW Unit, w.ownsMap Tryz.prog EP.k EP.R gm c D ∧ Says EP D f ∧ Maps.size D = c
section
variable {w w' : World} {gm c : Nat} {f : Int → Option Int}
theorem MapN.mf (h : MapN w gm c f) : MapF EP w gm c f := by obtain ⟨D, h1, h2, _⟩ := h; exact ⟨D, h1, h2⟩
theorem MapN.fr {X : Nat → Prop} (h : MapN w gm c f) (hf : Fr w w' X) (hx : ¬ X gm) : MapN w' gm c f := by
  obtain ⟨D, ⟨es, clock, hb, r⟩, h2, h3⟩ := h
  exact ⟨D, ⟨es, clock, by rw [hf.block gm (Array.getElem?_eq_some_iff.1 hb).1 hx]; exact hb, r⟩, h2, h3⟩
theorem mapN_new (w : World) : MapN (w.alloc (.map #[] 0)) w.heap.size 0 (fun _ => none) :=
  ⟨.map [], World.ownsMap_made w _ _ _, (fun x _ => ⟨rfl, fun b zd h => by cases h⟩), rfl⟩
theorem MapN.len (h : MapN w gm c f) (ty : TypeId) : (Builtin.len_ #[51] ty #[.map (some gm)]).run Tryz.prog w = .ok (.int .i64 (c : Int)) w := by
  obtain ⟨D, hown, _, hs⟩ := h
  have := hown.len EP.ht ty
  rw [hs] at this
  exact this
theorem MapN.put (h : MapN w gm c f) (hc : c < maxLen) {x : Int} (hx : In64 x) (hn : f x = none) (b : Int) : ∃ w', (Instr.mapUpdate 51 (.map (some gm)) (.int .i64 x) (.int .i64 b)).run Tryz.prog w = .ok () w' ∧ MapN w' gm (c + 1) (fun y => if y = x then some b else f y) ∧ Fr w w' (fun k => k = gm) := by
  obtain ⟨D, hown, h2, hs⟩ := h
  obtain ⟨w', hrun, r1, r2⟩ := hown.update EP.K EP.ht hc (EP.hkey x hx) (EP.hR b)
  have hM := (hown.tidy EP.K).isMap
  refine ⟨w', hrun, ⟨_, r1, fun y hy => ?_, ?_⟩, (Fr.grown r2).mono (fun q _ h => (Option.some.inj h).symm)⟩
  · by_cases hyx : y = x
    · subst hyx
      refine ⟨by rw [Maps.has_put_same hM (EP.kkey y)]; simp, fun b' zd hb => ?_⟩
      have hb : (if y = y then some b else f y) = some b' := hb
      rw [if_pos rfl] at hb
      cases hb
      rw [Maps.atKey_put_same hM (EP.kkey y)]
    · have hne : EP.kl y ≠ EP.kl x := fun h => hyx (EP.kinj _ _ h)
      refine ⟨by rw [Maps.has_put_other hne, (h2 y hy).1]; simp [hyx], fun b' zd hb => ?_⟩
      have hb : (if y = x then some b else f y) = some b' := hb
      rw [if_neg hyx] at hb
      rw [Maps.atKey_put_other hne]
      exact (h2 y hy).2 b' zd hb
  · rw [Maps.size_put (hown.tidy EP.K), (h2 x hx).1, hn, hs]
    rfl
end
/-- Where each number's point begins. -/
def px (L : List Pt) : Int → Option Int := fun i => (L.find? (fun q => decide (q.id = i))).map Pt.x
theorem px_cons (p : Pt) (L : List Pt) : px (p :: L) = fun y => if y = p.id then some p.x else px L y := by
  funext y
  unfold px
  rw [List.find?_cons]
  by_cases h : p.id = y
  · simp [h]
  · have h2 : ¬ (y = p.id) := fun e => h e.symm
    simp [h, h2]
theorem px_none {L : List Pt} {i : Int} (h : ∀ q ∈ L, q.id ≠ i) : px L i = none := by
  unfold px
  rw [List.find?_eq_none.2 (fun q hq => by simp [h q hq])]
  rfl
/-- A tree of points; X: all its blocks. -/
def TR (w : World) (base gt : Nat) (L : List Pt) (X : Nat → Prop) : Prop :=
  ∃ (gm : Nat) (ra : Option Addr) (t : PT) (S : Nat → Prop), w.heap[gt]? = some (.cells #[.map (some gm), .pointer ra] 54 (0, 0)) ∧ MapN w gm L.length (px L) ∧ TreeAt w base t (.pointer ra) S ∧ t.Ok ∧ t.pts.Perm L ∧ Ids L ∧ gt ≠ gm ∧ ¬ S gt ∧ ¬ S gm ∧ base ≤ gt ∧ base ≤ gm ∧ ∀ k, X k ↔ (k = gt ∨ k = gm ∨ S k)
theorem TR.fr {w w' : World} {base gt : Nat} {L : List Pt} {X Z : Nat → Prop} (h : TR w base gt L X) (hf : Fr w w' Z) (hz : ∀ k, X k → ¬ Z k) : TR w' base gt L X := by
  obtain ⟨gm, ra, t, S, h1, h2, h3, h4, h5, h6, h7, h8, h9, h10, h11, h12⟩ := h
  exact ⟨gm, ra, t, S, by rw [hf.block gt (Array.getElem?_eq_some_iff.1 h1).1 (hz gt ((h12 gt).2 (.inl rfl)))]; exact h1, h2.fr hf (hz gm ((h12 gm).2 (.inr (.inl rfl)))), h3.fr hf (fun k hk => hz k ((h12 k).2 (.inr (.inr hk)))), h4, h5, h6, h7, h8, h9, h10, h11, h12⟩
theorem TR.lt {w : World} {base gt : Nat} {L : List Pt} {X : Nat → Prop} (h : TR w base gt L X) : ∀ k, X k → base ≤ k ∧ k < w.heap.size := by
  obtain ⟨gm, ra, t, S, h1, h2, h3, h4, h5, h6, h7, h8, h9, h10, h11, h12⟩ := h
  intro k hk
  rcases (h12 k).1 hk with rfl | rfl | hk
  · exact ⟨h10, (Array.getElem?_eq_some_iff.1 h1).1⟩
  · exact ⟨h11, h2.mf.lt⟩
  · exact h3.lt k hk
theorem new_any (w : World) (base : Nat) (hb : base ≤ w.heap.size) : Calls Tryz.prog 5 #[] w fun e w' => ∃ (gt : Nat) (X : Nat → Prop), e = .returned (.pointer (some ⟨gt, 0, none⟩)) ∧ TR w' base gt [] X ∧ (∀ k, X k → w.heap.size ≤ k) ∧ Fr w w' (fun _ => False) := by
  have HRES : Hid (TR ((w.alloc (.map #[] 0)).alloc (.cells #[.map (some w.heap.size), .pointer none] 54)) base (w.heap.size + 1) [] (fun k => k = w.heap.size + 1 ∨ k = w.heap.size)) := hide (by
    have hz : (w.alloc (.map #[] 0)).heap.size = w.heap.size + 1 := by simp
    have b2 := heap_alloc_new (w.alloc (.map #[] 0)) (.cells #[.map (some w.heap.size), .pointer none] 54)
    rw [hz] at b2
    have hnil : TreeAt ((w.alloc (.map #[] 0)).alloc (.cells #[.map (some w.heap.size), .pointer none] 54)) base .nil (.pointer none) (fun _ => False) := ⟨rfl, fun _ h => h⟩
    exact ⟨w.heap.size, none, .nil, fun _ => False, b2, (mapN_new w).fr (Fr.alloc _ _ (fun _ => False)) (fun h => h), hnil, trivial, List.Perm.refl _, List.Pairwise.nil, by omega, fun h => h, fun h => h, by omega, hb, fun k => by simp⟩)
  have HF : Hid (Fr w ((w.alloc (.map #[] 0)).alloc (.cells #[.map (some w.heap.size), .pointer none] 54)) (fun _ => False)) := hide (((Fr.alloc w _ (fun _ => False)).trans (Fr.alloc _ _ (fun _ => False))).mono (fun _ _ h => h.elim (fun h => h) (fun h => h)))
  have hmk : ∀ V : World, (Instr.makeMap 51 none).run Tryz.prog V = .ok (.map (some V.heap.size)) (V.alloc (.map #[] 0)) := fun V => rfl
  go_enter Tryz.func5, Tryz.ntmps5
  go_wp2
  go_ret
  exact ⟨_, _, rfl, HRES.out, fun k hk => by omega, HF.out⟩
def FindPost (w : World) (L : List Pt) (lo hi le : Int) (e : Ending) (w' : World) : Prop :=
  ∃ (v : Value) (T : List Pt), e = .returned v ∧ OwnPt w' v T ∧ T.Perm (L.filter (withinP lo hi le)) ∧ T.Pairwise aheadP ∧ Fr w w' (fun _ => False) ∧ ∀ k, v.ownBlock = some k → w.heap.size ≤ k
theorem findT_any {w : World} {base gt : Nat} {L : List Pt} {X : Nat → Prop} (h : TR w base gt L X) (hsz : L.length ≤ 1099511627776) (lo hi le : Int) : Calls Tryz.prog 12 #[.pointer (some ⟨gt, 0, none⟩), .int .i64 lo, .int .i64 hi, .int .i64 le] w fun e w' => FindPost w L lo hi le e w' := by
  obtain ⟨gm, ra, t, S, h1, h2, h3, h4, h5, h6, _⟩ := h
  have c1 : w.cell? ⟨gt, 1, none⟩ = some (.pointer ra) := (cell_of_row _ _ _ _ _ _ h1).trans rfl
  have hts : t.size = L.length := by rw [← t.length_pts, h5.length_eq]
  have HFI := hide (find_any lo hi le t w base _ S h3 h4 (.slice none 0 0) [] (OwnPt.nil w) (fun k hk => by cases hk) (by simp only [List.length_nil]; omega))
  have HP := hide h5
  have HI := hide h6
  clear h1 h2 h3 h4 h5 h6
  go_enter Tryz.func12, Tryz.ntmps12
  go_wp2_with fail
  refine HFI.out.mono ?_
  rintro e W1 ⟨v1, rfl, o1, f1, s1⟩
  rw [List.nil_append] at o1
  have hl : (t.pts.filter (withinP lo hi le)).length ≤ 8796093022000 := by
    have := List.length_filter_le (withinP lo hi le) t.pts
    rw [t.length_pts] at this
    omega
  have HSO := hide (sortP_any v1 _ W1 o1 hl)
  have HF1 : Hid (Fr w W1 (fun _ => False)) := hide (f1.mono (fun k _ h => by cases h))
  have HS1 : Hid (∀ k, v1.ownBlock = some k → w.heap.size ≤ k) := hide (fun k hk => by
    rcases s1 with h | ⟨q, h, h2⟩
    · rw [h] at hk; cases hk
    · rw [h] at hk; cases hk; exact h2)
  clear o1 f1 s1 hl HFI c1
  go_wp2_with fail
  refine HSO.out.mono ?_
  rintro e W2 ⟨rfl, T, hpm, hst, o2, f2⟩
  have HRES : Hid (FindPost w L lo hi le (.returned v1) W2) := hide (by
    have hpf : (t.pts.filter (withinP lo hi le)).Perm (L.filter (withinP lo hi le)) := HP.out.filter _
    refine ⟨v1, T, rfl, o2, hpm.trans hpf, strict hst (Ids.perm (L := L.filter (withinP lo hi le)) (List.Pairwise.sublist List.filter_sublist HI.out) (hpm.trans hpf).symm), (HF1.out.trans f2).mono (fun k hk h => by rcases h with h | h; exact h; (have := HS1.out k h; omega)), HS1.out⟩)
  clear hpm hst o2 f2 HSO
  go_wp2
  go_ret
  exact HRES.out
end Go.Proofs.YtigkinakhijfoaaGreat.Ps

/- Add, Top. -/
namespace Go.Proofs.YtigkinakhijfoaaGreat.Ps
open Go.RowKit Go.Sort
set_option maxRecDepth 100000
set_option linter.unusedVariables false
set_option linter.unusedSimpArgs false

set_option maxHeartbeats 8000000 in
theorem addT_any {w : World} {base gt : Nat} {L : List Pt} {X : Nat → Prop} (h : TR w base gt L X) (p : Pt) (hid : In64 p.id) (hnew : ∀ q ∈ L, q.id ≠ p.id) (hsz : L.length + 1 ≤ 1099511627776) (hb : base ≤ w.heap.size) :
    Calls Tryz.prog 8 #[.pointer (some ⟨gt, 0, none⟩), p.agg] w fun e w' => e = .returned (.int .i64 0) ∧ (∃ X' : Nat → Prop, TR w' base gt (p :: L) X' ∧ ∀ k, X' k → X k ∨ w.heap.size ≤ k) ∧ Fr w w' X := by
  have hlt := h.lt
  obtain ⟨gm, ra, t, S, h1, h2, h3, h4, h5, h6, h7, h8, h9, h10, h11, h12⟩ := h
  unfold Pt.agg
  have hids : Ids (p :: L) := List.pairwise_cons.2 ⟨fun q hq => (hnew q hq).symm, h6⟩
  have hgtw := (Array.getElem?_eq_some_iff.1 h1).1
  have hgmw := h2.mf.lt
  have FA := (Fr.alloc w (.cells #[.int .i64 p.x, .int .i64 p.y, .int .i64 p.id] 35) (fun _ => False)).trans (Fr.drew _ (fun _ => False))
  have hbn : BoxAt (w.alloc (.cells #[.int .i64 p.x, .int .i64 p.y, .int .i64 p.id] 35)).drew w.heap.size p := heap_alloc_new w _
  have e1 : (w.alloc (.cells #[.int .i64 p.x, .int .i64 p.y, .int .i64 p.id] 35)).drew.heap[gt]? = some (.cells #[.map (some gm), .pointer ra] 54 (0, 0)) := by rw [FA.block gt hgtw (fun h => h.elim (fun h => h) (fun h => h))]; exact h1
  have hm1 : MapN (w.alloc (.cells #[.int .i64 p.x, .int .i64 p.y, .int .i64 p.id] 35)).drew gm L.length (px L) := h2.fr FA (fun h => h.elim (fun h => h) (fun h => h))
  have ht1 : TreeAt (w.alloc (.cells #[.int .i64 p.x, .int .i64 p.y, .int .i64 p.id] 35)).drew base t (.pointer ra) S := h3.fr FA (fun _ _ h => h.elim (fun h => h) (fun h => h))
  have hs1 : (w.alloc (.cells #[.int .i64 p.x, .int .i64 p.y, .int .i64 p.id] 35)).drew.heap.size = w.heap.size + 1 := by show (w.alloc _).heap.size = _; simp
  have hpn := px_none hnew
  have F1 : Fr w (w.alloc (.cells #[.int .i64 p.x, .int .i64 p.y, .int .i64 p.id] 35)).drew (fun _ => False) := FA.mono (fun _ _ h => h.elim (fun h => h) (fun h => h))
  have HPN := hide hpn
  have HTS : Hid (t.size = L.length) := hide (by rw [← t.length_pts, h5.length_eq])
  have HOK := hide h4
  have HPM := hide h5
  have HIDS := hide hids
  have HID := hide hid
  have HX := hide h12
  have HLT := hide hlt
  have HNE := hide (And.intro h7 (And.intro h8 (And.intro h9 (And.intro h10 h11))))
  have HSZ := hide hsz
  have HB := hide hb
  have HBX := hide hbn
  have HE1 := hide e1
  have HM1 := hide hm1
  have HT1 := hide ht1
  have HF1 := hide F1
  have HS1 := hide hs1
  have HGW := hide (And.intro hgtw hgmw)
  clear hlt h1 h2 h3 h4 h5 h6 h7 h8 h9 h10 h11 h12 hids FA hbn e1 hm1 ht1 hs1 hpn F1 hid hnew hsz hb hgtw hgmw
  go_enter Tryz.func8, Tryz.ntmps8
  go_wp2_with fail
  refine wp_region_K (fun _ => true) (fun U : World => U = (w.alloc (.cells #[.int .i64 p.x, .int .i64 p.y, .int .i64 p.id] 35)).drew) (by kernel_rfl) ?_
  generalize (w.alloc (.cells #[.int .i64 p.x, .int .i64 p.y, .int .i64 p.id] 35)).drew = U0 at *
  generalize hgb : w.heap.size = gb at *
  have HGB := hide hgb
  clear hgb
  have c0 : U0.cell? ⟨gt, 0, none⟩ = some (.map (some gm)) := (cell_of_row _ _ _ _ _ _ HE1.out).trans rfl
  have c1 : U0.cell? ⟨gt, 1, none⟩ = some (.pointer ra) := (cell_of_row _ _ _ _ _ _ HE1.out).trans rfl
  obtain ⟨x0, x1, x2⟩ := HBX.out.pt
  have hlk : (Instr.lookup 51 (.map (some gm)) (.int .i64 p.id) true).run Tryz.prog U0 = .ok (.tuple #[.int .i64 0, .bool false]) U0 := by
    have := HM1.out.mf.look_ok (x := p.id) HID.out
    rw [HPN.out] at this
    exact this
  have hS : (fun U : World => U = U0) U0 := rfl
  refine wpAnyK_takeTo 0 (some 8) (.pointer (some ⟨gt, 0, none⟩)) [1, 2, 3, 6, 7, 8, 9, 10, 11] rfl rfl (by kernel_rfl) (by kernel_rfl) (by kernel_rfl) (by kernel_rfl) (fun _ _ _ h => h) hS (Or.inl ⟨rfl, fun w1 hw1 => by have hw1 : w1 = U0 := hw1; subst hw1; go_simp⟩) ?_
  simp only [Act.put, List.setIfInBounds_toArray, List.set_cons_zero, List.set_cons_succ]
  refine wpAnyK_takeTo 1 (some 9) (.pointer (some ⟨gt, 0, none⟩)) [2, 3, 6, 7, 8, 9, 10, 11] rfl rfl (by kernel_rfl) (by kernel_rfl) (by kernel_rfl) (by kernel_rfl) (fun _ _ _ h => h) hS (Or.inl ⟨rfl, fun w1 hw1 => by have hw1 : w1 = U0 := hw1; subst hw1; go_simp⟩) ?_
  simp only [Act.put, List.setIfInBounds_toArray, List.set_cons_zero, List.set_cons_succ]
  refine wpAnyK_takeTo 2 (some 10) (.pointer (some ⟨gt, 0, none⟩)) [3, 6, 7, 8, 9, 10, 11] rfl rfl (by kernel_rfl) (by kernel_rfl) (by kernel_rfl) (by kernel_rfl) (fun _ _ _ h => h) hS (Or.inl ⟨rfl, fun w1 hw1 => by have hw1 : w1 = U0 := hw1; subst hw1; go_simp⟩) ?_
  simp only [Act.put, List.setIfInBounds_toArray, List.set_cons_zero, List.set_cons_succ]
  refine wpAnyK_takeTo 3 (some 11) (.map (some gm)) [6, 7, 8, 9, 10, 11] rfl rfl (by kernel_rfl) (by kernel_rfl) (by kernel_rfl) (by kernel_rfl) (fun _ _ _ h => h) hS (Or.inl ⟨rfl, fun w1 hw1 => by have hw1 : w1 = U0 := hw1; subst hw1; go_simp⟩) ?_
  simp only [Act.put, List.setIfInBounds_toArray, List.set_cons_zero, List.set_cons_succ]
  refine wpAnyK_takeTo 4 (some 12) (.pointer (some ⟨gb, 2, none⟩)) [5, 6, 7, 8, 9, 10, 11] rfl rfl (by kernel_rfl) (by kernel_rfl) (by kernel_rfl) (by kernel_rfl) (fun _ _ _ h => h) hS (Or.inl ⟨rfl, fun w1 hw1 => by have hw1 : w1 = U0 := hw1; subst hw1; go_simp⟩) ?_
  simp only [Act.put, List.setIfInBounds_toArray, List.set_cons_zero, List.set_cons_succ]
  refine wpAnyK_takeTo 5 (some 13) (.int .i64 p.id) [6, 7, 8, 9, 10, 11] rfl rfl (by kernel_rfl) (by kernel_rfl) (by kernel_rfl) (by kernel_rfl) (fun _ _ _ h => h) hS (Or.inl ⟨rfl, fun w1 hw1 => by have hw1 : w1 = U0 := hw1; subst hw1; go_simp⟩) ?_
  simp only [Act.put, List.setIfInBounds_toArray, List.set_cons_zero, List.set_cons_succ]
  refine wpAnyK_takeTo 6 (some 14) (.tuple #[.int .i64 0, .bool false]) [7, 8, 9, 10, 11] rfl rfl (by kernel_rfl) (by kernel_rfl) (by kernel_rfl) (by kernel_rfl) (fun _ _ _ h => h) hS (Or.inl ⟨rfl, fun w1 hw1 => by have hw1 : w1 = U0 := hw1; subst hw1; go_simp⟩) ?_
  simp only [Act.put, List.setIfInBounds_toArray, List.set_cons_zero, List.set_cons_succ]
  refine wpAnyK_takeTo 7 (some 7) (.tuple #[.int .i64 0, .bool false]) [8, 9, 10, 11] rfl rfl (by kernel_rfl) (by kernel_rfl) (by kernel_rfl) (by kernel_rfl) (fun _ _ _ h => h) hS (Or.inl ⟨rfl, fun w1 hw1 => by have hw1 : w1 = U0 := hw1; subst hw1; go_simp⟩) ?_
  simp only [Act.put, List.setIfInBounds_toArray, List.set_cons_zero, List.set_cons_succ]
  refine wpAnyK_takeTo 8 (some 15) (.int .i64 0) [10, 11] rfl rfl (by kernel_rfl) (by kernel_rfl) (by kernel_rfl) (by kernel_rfl) (fun _ _ _ h => h) hS (Or.inl ⟨rfl, fun w1 hw1 => by have hw1 : w1 = U0 := hw1; subst hw1; go_simp⟩) ?_
  simp only [Act.put, List.setIfInBounds_toArray, List.set_cons_zero, List.set_cons_succ]
  refine wpAnyK_takeTo 9 (some 16) (.bool false) [11] rfl rfl (by kernel_rfl) (by kernel_rfl) (by kernel_rfl) (by kernel_rfl) (fun _ _ _ h => h) hS (Or.inl ⟨rfl, fun w1 hw1 => by have hw1 : w1 = U0 := hw1; subst hw1; go_simp⟩) ?_
  simp only [Act.put, List.setIfInBounds_toArray, List.set_cons_zero, List.set_cons_succ]
  clear hlk
  refine wpAnyK_one (i := 10) (by kernel_rfl) rfl rfl ?_
  go_simp
  refine wpAnyK_one (i := 11) (by kernel_rfl) rfl rfl ?_
  go_simp
  refine wpAnyK_done (by kernel_rfl) ?_ _
  clear hS
  go_wp2_with fail
  have D1 := Fr.drew U0 (fun _ => False)
  obtain ⟨U2, hup, hm2, f2⟩ := (HM1.out.fr D1 (fun h => h)).put (by have := HSZ.out; unfold maxLen; omega) HID.out HPN.out p.x
  refine wp_region_K (fun z => decide (z < 8)) (fun U : World => U = U0.drew) (by kernel_rfl) ?_
  have hS : (fun U : World => U = U0.drew) U0.drew := rfl
  have k0 : U0.drew.cell? ⟨gt, 0, none⟩ = some (.map (some gm)) := c0
  have y0 : U0.drew.cell? ⟨gb, 0, none⟩ = some (.int .i64 p.x) := x0
  have y2 : U0.drew.cell? ⟨gb, 2, none⟩ = some (.int .i64 p.id) := x2
  have hgbm : gb ≠ gm := by have := HGW.out; omega
  have hgtm : gt ≠ gm := HNE.out.1
  have F2 := (D1.trans f2).mono (Y := fun k => k = gm) (fun k _ h => by rcases h with h | h; exact h.elim; exact h)
  have HBX2 := hide (HBX.out.fr F2 (fun h => hgbm h))
  have HE2 : Hid (U2.heap[gt]? = some (.cells #[.map (some gm), .pointer ra] 54 (0, 0))) := hide (by rw [F2.block gt (Array.getElem?_eq_some_iff.1 HE1.out).1 (fun h => hgtm h)]; exact HE1.out)
  have HT2 := hide (HT1.out.fr F2 (fun k hk h => by have h : k = gm := h; subst h; exact HNE.out.2.2.1 hk))
  have HM2 : Hid (MapN U2 gm (p :: L).length (px (p :: L))) := hide (by rw [px_cons]; exact hm2)
  have HF2 := hide ((HF1.out.trans F2).mono (Y := fun k => k = gm) (fun k _ h => by rcases h with h | h; exact h.elim; exact h))
  have HS2 : Hid (gb + 1 ≤ U2.heap.size) := hide (by have := F2.size; have := HS1.out; omega)
  clear c0 c1 x0 x1 x2 D1 f2 F2 hm2 HBX HE1 HT1 HM1 HF1 HS1
  generalize U0.drew = U1 at *
  refine wpAnyK_takeTo 0 (some 18) (.pointer (some ⟨gt, 0, none⟩)) [1, 2, 3, 8] rfl rfl (by kernel_rfl) (by kernel_rfl) (by kernel_rfl) (by kernel_rfl) (fun _ _ _ h => h) hS (Or.inl ⟨rfl, fun w1 hw1 => by have hw1 : w1 = U1 := hw1; subst hw1; go_simp⟩) ?_
  simp only [Act.put, List.setIfInBounds_toArray, List.set_cons_zero, List.set_cons_succ]
  refine wpAnyK_takeTo 1 (some 19) (.pointer (some ⟨gt, 0, none⟩)) [2, 3, 8] rfl rfl (by kernel_rfl) (by kernel_rfl) (by kernel_rfl) (by kernel_rfl) (fun _ _ _ h => h) hS (Or.inl ⟨rfl, fun w1 hw1 => by have hw1 : w1 = U1 := hw1; subst hw1; go_simp⟩) ?_
  simp only [Act.put, List.setIfInBounds_toArray, List.set_cons_zero, List.set_cons_succ]
  refine wpAnyK_takeTo 2 (some 20) (.pointer (some ⟨gt, 0, none⟩)) [3, 8] rfl rfl (by kernel_rfl) (by kernel_rfl) (by kernel_rfl) (by kernel_rfl) (fun _ _ _ h => h) hS (Or.inl ⟨rfl, fun w1 hw1 => by have hw1 : w1 = U1 := hw1; subst hw1; go_simp⟩) ?_
  simp only [Act.put, List.setIfInBounds_toArray, List.set_cons_zero, List.set_cons_succ]
  refine wpAnyK_takeTo 3 (some 21) (.map (some gm)) [8] rfl rfl (by kernel_rfl) (by kernel_rfl) (by kernel_rfl) (by kernel_rfl) (fun _ _ _ h => h) hS (Or.inl ⟨rfl, fun w1 hw1 => by have hw1 : w1 = U1 := hw1; subst hw1; go_simp⟩) ?_
  simp only [Act.put, List.setIfInBounds_toArray, List.set_cons_zero, List.set_cons_succ]
  refine wpAnyK_takeTo 4 (some 22) (.pointer (some ⟨gb, 2, none⟩)) [5, 8] rfl rfl (by kernel_rfl) (by kernel_rfl) (by kernel_rfl) (by kernel_rfl) (fun _ _ _ h => h) hS (Or.inl ⟨rfl, fun w1 hw1 => by have hw1 : w1 = U1 := hw1; subst hw1; go_simp⟩) ?_
  simp only [Act.put, List.setIfInBounds_toArray, List.set_cons_zero, List.set_cons_succ]
  refine wpAnyK_takeTo 5 (some 23) (.int .i64 p.id) [8] rfl rfl (by kernel_rfl) (by kernel_rfl) (by kernel_rfl) (by kernel_rfl) (fun _ _ _ h => h) hS (Or.inl ⟨rfl, fun w1 hw1 => by have hw1 : w1 = U1 := hw1; subst hw1; go_simp⟩) ?_
  simp only [Act.put, List.setIfInBounds_toArray, List.set_cons_zero, List.set_cons_succ]
  refine wpAnyK_takeTo 6 (some 24) (.pointer (some ⟨gb, 0, none⟩)) [7, 8] rfl rfl (by kernel_rfl) (by kernel_rfl) (by kernel_rfl) (by kernel_rfl) (fun _ _ _ h => h) hS (Or.inl ⟨rfl, fun w1 hw1 => by have hw1 : w1 = U1 := hw1; subst hw1; go_simp⟩) ?_
  simp only [Act.put, List.setIfInBounds_toArray, List.set_cons_zero, List.set_cons_succ]
  refine wpAnyK_takeTo 7 (some 25) (.int .i64 p.x) [8] rfl rfl (by kernel_rfl) (by kernel_rfl) (by kernel_rfl) (by kernel_rfl) (fun _ _ _ h => h) hS (Or.inl ⟨rfl, fun w1 hw1 => by have hw1 : w1 = U1 := hw1; subst hw1; go_simp⟩) ?_
  simp only [Act.put, List.setIfInBounds_toArray, List.set_cons_zero, List.set_cons_succ]
  refine wpAnyK_one (i := 8) (by kernel_rfl) rfl rfl ?_
  go_simp
  refine wpAnyK_done (by kernel_rfl) ?_ _
  clear hS hup k0 y0 y2
  go_wp2_with fail
  refine wp_region_K (fun z => decide (z < 7)) (fun U : World => PtAt U gb 0 p ∧ U.cell? ⟨gt, 1, none⟩ = some (.pointer ra)) (by kernel_rfl) ?_
  have D2 := Fr.drew U2 (fun _ => False)
  have HBX3 := hide (HBX2.out.fr D2 (fun h => h))
  have HE3 : Hid (U2.drew.heap[gt]? = some (.cells #[.map (some gm), .pointer ra] 54 (0, 0))) := hide HE2.out
  have HT3 := hide (HT2.out.fr D2 (fun _ _ h => h))
  have HM3 := hide (HM2.out.fr D2 (fun h => h))
  have HF3 := hide ((HF2.out.trans D2).mono (Y := fun k => k = gm) (fun k _ h => by rcases h with h | h; exact h; exact h.elim))
  have HS3 : Hid (gb + 1 ≤ U2.drew.heap.size) := hide HS2.out
  clear D2 HBX2 HE2 HT2 HM2 HF2 HS2
  generalize U2.drew = U3 at *
  have hS : (fun U : World => PtAt U gb 0 p ∧ U.cell? ⟨gt, 1, none⟩ = some (.pointer ra)) U3 := ⟨HBX3.out.pt, (cell_of_row _ _ _ _ _ _ HE3.out).trans rfl⟩
  refine wpAnyK_takeTo 0 (some 26) (.pointer (some ⟨gt, 0, none⟩)) [7, 8, 9] rfl rfl (by kernel_rfl) (by kernel_rfl) (by kernel_rfl) (by kernel_rfl) (fun _ _ _ h => h) hS (Or.inl ⟨rfl, fun w1 hw1 => by obtain ⟨⟨q1, q2, q3⟩, q4⟩ := hw1; go_simp⟩) ?_
  simp only [Act.put, List.setIfInBounds_toArray, List.set_cons_zero, List.set_cons_succ]
  refine wpAnyK_takeTo 1 (some 27) (.pointer (some ⟨gt, 0, none⟩)) [2, 3, 4, 6, 7, 8, 9] rfl rfl (by kernel_rfl) (by kernel_rfl) (by kernel_rfl) (by kernel_rfl) (fun _ _ _ h => h) hS (Or.inl ⟨rfl, fun w1 hw1 => by obtain ⟨⟨q1, q2, q3⟩, q4⟩ := hw1; go_simp⟩) ?_
  simp only [Act.put, List.setIfInBounds_toArray, List.set_cons_zero, List.set_cons_succ]
  refine wpAnyK_takeTo 2 (some 28) (.pointer (some ⟨gt, 0, none⟩)) [3, 4, 6, 7, 8, 9] rfl rfl (by kernel_rfl) (by kernel_rfl) (by kernel_rfl) (by kernel_rfl) (fun _ _ _ h => h) hS (Or.inl ⟨rfl, fun w1 hw1 => by obtain ⟨⟨q1, q2, q3⟩, q4⟩ := hw1; go_simp⟩) ?_
  simp only [Act.put, List.setIfInBounds_toArray, List.set_cons_zero, List.set_cons_succ]
  refine wpAnyK_takeTo 3 (some 29) (.pointer (some ⟨gt, 1, none⟩)) [4, 6, 7, 8, 9] rfl rfl (by kernel_rfl) (by kernel_rfl) (by kernel_rfl) (by kernel_rfl) (fun _ _ _ h => h) hS (Or.inl ⟨rfl, fun w1 hw1 => by obtain ⟨⟨q1, q2, q3⟩, q4⟩ := hw1; go_simp⟩) ?_
  simp only [Act.put, List.setIfInBounds_toArray, List.set_cons_zero, List.set_cons_succ]
  refine wpAnyK_takeTo 4 (some 30) (.pointer ra) [6, 7, 8, 9] rfl rfl (by kernel_rfl) (by kernel_rfl) (by kernel_rfl) (by kernel_rfl) (fun _ _ _ h => h) hS (Or.inl ⟨rfl, fun w1 hw1 => by obtain ⟨⟨q1, q2, q3⟩, q4⟩ := hw1; go_simp⟩) ?_
  simp only [Act.put, List.setIfInBounds_toArray, List.set_cons_zero, List.set_cons_succ]
  refine wpAnyK_takeTo 5 (some 31) (.agg #[.int .i64 p.x, .int .i64 p.y, .int .i64 p.id]) [6, 7, 8, 9] rfl rfl (by kernel_rfl) (by kernel_rfl) (by kernel_rfl) (by kernel_rfl) (fun _ _ _ h => h) hS (Or.inl ⟨rfl, fun w1 hw1 => by obtain ⟨⟨q1, q2, q3⟩, q4⟩ := hw1; go_simp⟩) ?_
  simp only [Act.put, List.setIfInBounds_toArray, List.set_cons_zero, List.set_cons_succ]
  refine wpAnyK_one (i := 6) (by kernel_rfl) rfl rfl ?_
  have hadd := add_any t U3 base _ S HT3.out HOK.out p (HIDS.out.perm (HPM.out.symm.cons p)) (by rw [HTS.out]; exact HSZ.out) (by have := HB.out; have := HS3.out; omega)
  unfold Pt.agg at hadd
  refine wp_call_to (some 32) rfl 19 #[.pointer ra, .agg #[.int .i64 p.x, .int .i64 p.y, .int .i64 p.id]] (by go_simp) hadd ?_
  rintro e U4 ⟨t', v', S', rfl, ht', hok', hp', hS', hf'⟩
  obtain ⟨na, rfl⟩ := ht'.ptr
  have hbS : ¬ S gb := fun h => by have := HLT.out gb ((HX.out gb).2 (.inr (.inr h))); omega
  have hb4 := HBX3.out.fr hf' hbS
  have he4 : U4.heap[gt]? = some (.cells #[.map (some gm), .pointer ra] 54 (0, 0)) := by rw [hf'.block gt (Array.getElem?_eq_some_iff.1 HE3.out).1 HNE.out.2.1]; exact HE3.out
  have hS4 : (fun U : World => PtAt U gb 0 p ∧ U.cell? ⟨gt, 1, none⟩ = some (.pointer ra)) U4 := ⟨hb4.pt, (cell_of_row _ _ _ _ _ _ he4).trans rfl⟩
  refine ⟨_, rfl, fun _ => hS4, ?_⟩
  simp only [Act.put, List.setIfInBounds_toArray, List.set_cons_zero, List.set_cons_succ]
  have c1 : U4.cell? ⟨gt, 1, none⟩ = some (.pointer ra) := hS4.2
  have z1 : U4.frozen? ⟨gt, 1, none⟩ = false := by simp [World.frozen?, he4]
  obtain ⟨U5, hU5⟩ : ∃ U5, U5 = U4.setCell ⟨gt, 1, none⟩ (.pointer na) := ⟨_, rfl⟩
  have F5 : Fr U4 U5 (fun k => k = gt) := by rw [hU5]; exact Fr.setCell U4 ⟨gt, 1, none⟩ _
  have he5 : U5.heap[gt]? = some (.cells #[.map (some gm), .pointer na] 54 (0, 0)) := by
    rw [hU5, heap_setCell_here U4 gt 1 (.pointer na) _ 54 (0, 0) he4]
    rfl
  have hold : ∀ k, S' k → S k ∨ gb + 1 ≤ k := fun k hk => by
    rcases hS' k hk with h | h
    · exact .inl h
    · exact .inr (by have := HS3.out; omega)
  have HRES : Hid ((∃ X' : Nat → Prop, TR U5 base gt (p :: L) X' ∧ ∀ k, X' k → X k ∨ gb ≤ k) ∧ Fr w U5 X) := hide (by
    obtain ⟨n1, n2, n3, n4, n5⟩ := HNE.out
    have hgw := HGW.out
    have hS1t : ¬ S' gt := fun h => by rcases hold gt h with h | h; exact n2 h; omega
    have hS1m : ¬ S' gm := fun h => by rcases hold gm h with h | h; exact n3 h; omega
    refine ⟨⟨fun k => k = gt ∨ k = gm ∨ S' k, ⟨gm, na, t', S', he5, (HM3.out.fr hf' n3).fr F5 (fun h => n1 h.symm), ht'.fr F5 (fun k hk h => by have h : k = gt := h; subst h; exact hS1t hk), hok', hp'.trans (HPM.out.cons p), HIDS.out, n1, hS1t, hS1m, n4, n5, fun k => Iff.rfl⟩, fun k hk => ?_⟩, ?_⟩
    · rcases hk with h | h | h
      · exact .inl ((HX.out k).2 (.inl h))
      · exact .inl ((HX.out k).2 (.inr (.inl h)))
      · rcases hold k h with h | h
        · exact .inl ((HX.out k).2 (.inr (.inr h)))
        · exact .inr (by omega)
    · exact ((HF3.out.trans hf').trans F5).mono (fun k _ h => by
        rcases h with (h | h) | h
        · exact (HX.out k).2 (.inr (.inl h))
        · exact (HX.out k).2 (.inr (.inr h))
        · exact (HX.out k).2 (.inl h)))
  have HU5 := hide hU5
  clear hU5 F5 he5 hold ht' hok' hp' hS' hf' hb4 he4 hS4 hS hadd hbS
  refine wpAnyK_one (i := 7) (by kernel_rfl) rfl rfl ?_
  go_simp
  refine wpAnyK_one (i := 8) (by kernel_rfl) rfl rfl ?_
  go_simp
  refine wpAnyK_one (i := 9) (by kernel_rfl) rfl rfl ?_
  go_simp
  rw [← HU5.out]
  refine wpAnyK_done (by kernel_rfl) ?_ _
  clear c1 z1 HU5
  go_wp2
  go_ret
  have hres := HRES.out
  rw [← HGB.out] at hres
  exact ⟨rfl, hres⟩
theorem PtAt.range {w : World} {g o : Nat} {p : Pt} (h : PtAt w g o p) : w.rangeAt g o [.int .i64 p.x, .int .i64 p.y, .int .i64 p.id] := fun j v hv => by
  match j, hv with
  | 0, hv => cases hv; exact h.1
  | 1, hv => cases hv; exact h.2.1
  | 2, hv => cases hv; exact h.2.2
end Go.Proofs.YtigkinakhijfoaaGreat.Ps

/- What the laws on trees keep: the points of a list of periods; sorted lists; lists put together. -/
namespace Go.Proofs.YtigkinakhijfoaaGreat.Ps
open Go.RowKit Go.Sort Go.Maps
set_option maxRecDepth 100000
set_option linter.unusedVariables false
set_option linter.unusedSimpArgs false

/-- Periods that come in. -/
def PersIn (w : World) (a : Option Addr) (L : List (Int × Int)) : Prop := ∀ (i : Nat) (x : Int × Int), L[i]? = some x → ∃ g off, a = some ⟨g, off, none⟩ ∧ g < w.heap.size ∧ w.cell? ⟨g, off + i * 2, none⟩ = some (.int .i64 x.1) ∧ w.cell? ⟨g, off + i * 2 + 1, none⟩ = some (.int .i64 x.2)
end Go.Proofs.YtigkinakhijfoaaGreat.Ps

/- PstreeStabs: two trees, truths. -/
namespace Go.Proofs.YtigkinakhijfoaaGreat.Ps
open Go.RowKit Go.Sort
set_option maxRecDepth 100000
set_option linter.unusedVariables false
set_option linter.unusedSimpArgs false

/-- Two trees. -/
def T2 (w : World) (bs gt gs : Nat) (P Q : List Pt) (W : World) : Prop :=
  ∃ X Y : Nat → Prop, TR W bs gt P X ∧ TR W bs gs Q Y ∧ (∀ k, X k → ¬ Y k) ∧ (∀ k, X k ∨ Y k → bs ≤ k) ∧ Fr w W (fun k => bs ≤ k) ∧ bs ≤ W.heap.size
theorem T2.fr {w W W' : World} {bs gt gs : Nat} {P Q : List Pt} (h : T2 w bs gt gs P Q W) (hf : Fr W W' (fun _ => False)) : T2 w bs gt gs P Q W' := by
  obtain ⟨X, Y, h1, h2, h3, h4, h5, h6⟩ := h
  exact ⟨X, Y, h1.fr hf (fun _ _ h => h), h2.fr hf (fun _ _ h => h), h3, h4, (h5.trans hf).mono (fun k _ h => by rcases h with h | h; exact h; exact h.elim), Nat.le_trans h6 hf.size⟩
theorem T2.swap {w W : World} {bs gt gs : Nat} {P Q : List Pt} (h : T2 w bs gt gs P Q W) : T2 w bs gs gt Q P W := by
  obtain ⟨X, Y, h1, h2, h3, h4, h5, h6⟩ := h
  exact ⟨Y, X, h2, h1, fun k hy hx => h3 k hx hy, fun k hk => h4 k hk.symm, h5, h6⟩
theorem T2.find {w W : World} {bs gt gs : Nat} {P Q : List Pt} (h : T2 w bs gt gs P Q W) (hsz : P.length ≤ 1099511627776) (lo hi le : Int) : Calls Tryz.prog 12 #[.pointer (some ⟨gt, 0, none⟩), .int .i64 lo, .int .i64 hi, .int .i64 le] W fun e W' => FindPost W P lo hi le e W' := by
  obtain ⟨X, Y, h1, _⟩ := h
  exact findT_any h1 hsz lo hi le
theorem full4 : ∃ i, Tryz.prog.info? 4 = some i ∧ i.zero = some (.bool false) ∧ i.size = 1 ∧ i.bytes = 1 := by
  have h0 : (Tryz.prog.info? 4).isSome = true := by kernel_rfl
  have h1 : (Tryz.prog.info? 4).bind (·.zero) = some (.bool false) := by kernel_rfl
  have h2 : (Tryz.prog.info? 4).map (·.size) = some 1 := by kernel_rfl
  have h3 : (Tryz.prog.info? 4).map (·.bytes) = some 1 := by kernel_rfl
  obtain ⟨i, hi⟩ := Option.isSome_iff_exists.1 h0
  rw [hi] at h1 h2 h3
  exact ⟨i, hi, h1, Option.some.inj h2, Option.some.inj h3⟩
/-- A row of truths: what each is. -/
def Bools (w : World) (g n : Nat) (f : Nat → Bool) : Prop := g < w.heap.size ∧ (∀ k, w.frozen? ⟨g, k, none⟩ = false) ∧ ∀ i, i < n → w.cell? ⟨g, i, none⟩ = some (.bool (f i))
theorem Bools.fr {w w' : World} {X : Nat → Prop} {g n : Nat} {f : Nat → Bool} (h : Bools w g n f) (hf : Fr w w' X) (hx : ¬ X g) : Bools w' g n f :=
  ⟨Nat.lt_of_lt_of_le h.1 hf.size, fun k => by rw [frozen_eq_fr hf h.1 hx]; exact h.2.1 k, fun i hi => hf.cell' hx (h.2.2 i hi)⟩
theorem Bools.set {w : World} {g n : Nat} {f : Nat → Bool} (h : Bools w g n f) (i : Nat) (hi : i < n) : Bools (w.setCell ⟨g, i, none⟩ (.bool true)) g n (fun j => if j = i then true else f j) := by
  refine ⟨by simpa [World.setCell] using h.1, fun k => by have := World.frozen?_setCells g [.bool true] i w ⟨g, k, none⟩; simp only [World.setCells] at this; rw [this]; exact h.2.1 k, fun j hj => ?_⟩
  by_cases hji : j = i
  · subst hji
    show _ = some (Value.bool (if j = j then true else f j))
    rw [if_pos rfl]
    exact World.cell?_setCell_same _ _ _ (h.2.2 j hj)
  · show _ = some (Value.bool (if j = i then true else f j))
    rw [if_neg hji]
    have := World.cell?_setCells_out g [.bool true] i w ⟨g, j, none⟩ (fun _ _ => by show j < i ∨ i + 1 ≤ j; omega)
    simp only [World.setCells] at this
    rw [this]
    exact h.2.2 j hj
theorem frozen4 {W : World} {g : Nat} {c : Array Value} (h : W.heap[g]? = some (.cells c 4 (0, 0))) (k : Nat) : W.frozen? ⟨g, k, none⟩ = false := by simp [World.frozen?, h]
theorem bools_new (w : World) (n : Nat) : Bools (w.alloc (.cells (madeCells (Value.bool false).cells n) 4)) w.heap.size n (fun _ => false) := by
  have hb := heap_alloc_new w (.cells (madeCells (Value.bool false).cells n) 4)
  refine ⟨(Array.getElem?_eq_some_iff.1 hb).1, fun k => frozen4 hb k, fun i hi => ?_⟩
  rw [cell_of_row _ _ _ _ _ _ hb]
  simp [madeCells, Value.cells, hi, Nat.mod_one]
theorem make43 (V : World) (n : Nat) (hn : n ≤ 1048576) : (Instr.makeSlice 36 (.int .i64 (n : Int)) (.int .i64 (n : Int))).run Tryz.prog V = .ok (.slice (some ⟨V.heap.size, 0, none⟩) n n) (V.alloc (.cells (madeCells (Value.bool false).cells n) 4)) := by
  obtain ⟨i, hi, hz, hs, hb⟩ := full4
  have := run_make (P := Tryz.prog) V 36 4 i _ Tryz.underlying36 hi hz .i64 .i64 n n (by omega) (by omega) (by rw [hb]; omega) (by omega)
  rw [hs] at this
  simpa using this
end Go.Proofs.YtigkinakhijfoaaGreat.Ps
