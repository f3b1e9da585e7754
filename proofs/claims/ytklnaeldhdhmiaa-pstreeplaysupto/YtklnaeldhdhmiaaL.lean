/- The tree as a whole: New, Len, Find. -/
import Derived.Test.YtklnaeldhdhmiaaK
import Derived.Test.YtklnaeldhdhmiaaMa
namespace Go.Proofs.Ytklnaeldhdhmiaa
open Go.RowKit Go.Sort
set_option maxRecDepth 100000
set_option linter.unusedVariables false
set_option linter.unusedSimpArgs false

def rdI (v : Value) : Option (DataW Unit × List MemPlace) := match v with
  | .int .i64 a => some (.lit (.int .i64 a), [])
  | _ => none
/-- Numbers by numbers. -/
def EP : Elem Int Int where
  t := 52
  k := 2
  e := 2
  ht := Try.underlying52
  K := Maps.int_keyed Try.underlying2
  kv := fun x => .int .i64 x
  kl := fun x => .int .i64 x
  ok := In64
  hkey := fun x hx => Maps.keyOf_int_mk Try.underlying2 hx.wf
  kinv := fun v l h => by obtain ⟨x, h1, h2, h3⟩ := Maps.keyOf_int_inv Try.underlying2 h; exact ⟨x, h1, h2, in64_of h3⟩
  kinj := fun x y h => by injection h
  vinj := fun x y h => by injection h
  kkey := fun x => trivial
  R := rdI
  val := fun x => .int .i64 x
  dat := fun x => .lit (.int .i64 x)
  z := 0
  hz := fun w => by simp [zeroValue, typeInfo]; kernel_rfl
  hR := fun b => rfl
  inv := fun v y h => by
    unfold rdI at h
    split at h
    · cases h; exact ⟨_, rfl, rfl⟩
    · cases h
  inj := fun a b h => by simpa using h
/-- A map of just so many entries. -/
def MapN (w : World) (gm c : Nat) (f : Int → Option Int) : Prop := ∃ D : DataW Unit, w.ownsMap Try.prog EP.k EP.R gm c D ∧ Says EP D f ∧ Maps.size D = c
section
variable {w w' : World} {gm c : Nat} {f : Int → Option Int}
theorem MapN.mf (h : MapN w gm c f) : MapF EP w gm c f := by obtain ⟨D, h1, h2, _⟩ := h; exact ⟨D, h1, h2⟩
theorem MapN.fr {X : Nat → Prop} (h : MapN w gm c f) (hf : Fr w w' X) (hx : ¬ X gm) : MapN w' gm c f := by
  obtain ⟨D, ⟨es, clock, hb, r⟩, h2, h3⟩ := h
  exact ⟨D, ⟨es, clock, by rw [hf.block gm (Array.getElem?_eq_some_iff.1 hb).1 hx]; exact hb, r⟩, h2, h3⟩
theorem mapN_new (w : World) : MapN (w.alloc (.map #[] 0)) w.heap.size 0 (fun _ => none) :=
  ⟨.map [], World.ownsMap_made w _ _ _, (fun x _ => ⟨rfl, fun b zd h => by cases h⟩), rfl⟩
theorem MapN.len (h : MapN w gm c f) (ty : TypeId) : (Builtin.len_ #[52] ty #[.map (some gm)]).run Try.prog w = .ok (.int .i64 (c : Int)) w := by
  obtain ⟨D, hown, _, hs⟩ := h
  have := hown.len EP.ht ty
  rw [hs] at this
  exact this
theorem MapN.put (h : MapN w gm c f) (hc : c < maxLen) {x : Int} (hx : In64 x) (hn : f x = none) (b : Int) : ∃ w', (Instr.mapUpdate 52 (.map (some gm)) (.int .i64 x) (.int .i64 b)).run Try.prog w = .ok () w' ∧ MapN w' gm (c + 1) (fun y => if y = x then some b else f y) ∧ Fr w w' (fun k => k = gm) := by
  obtain ⟨D, hown, h2, hs⟩ := h
  obtain ⟨w', hrun, r1, r2⟩ := hown.update EP.K EP.ht hc (EP.hkey x hx) (EP.hR b)
  have hM := (hown.tidy EP.K).isMap
  refine ⟨w', hrun, ⟨_, r1, fun y hy => ?_, ?_⟩, (Fr.grown r2).mono (fun q _ h => (Option.some.inj h).symm)⟩
  · by_cases hyx : y = x
    · subst hyx
      refine ⟨by rw [Maps.has_put_same hM (EP.kkey y)]; simp, fun b' zd hb => ?_⟩
      have hb : (if y = y then some b else f y) = some b' := hb
      rw [if_pos rfl] at hb
      cases hb
      rw [Maps.atKey_put_same hM (EP.kkey y)]
    · have hne : EP.kl y ≠ EP.kl x := fun h => hyx (EP.kinj _ _ h)
      refine ⟨by rw [Maps.has_put_other hne, (h2 y hy).1]; simp [hyx], fun b' zd hb => ?_⟩
      have hb : (if y = x then some b else f y) = some b' := hb
      rw [if_neg hyx] at hb
      rw [Maps.atKey_put_other hne]
      exact (h2 y hy).2 b' zd hb
  · rw [Maps.size_put (hown.tidy EP.K), (h2 x hx).1, hn, hs]
    rfl
end
/-- Where each number's point begins. -/
def px (L : List Pt) : Int → Option Int := fun i => (L.find? (fun q => decide (q.id = i))).map Pt.x
theorem px_cons (p : Pt) (L : List Pt) : px (p :: L) = fun y => if y = p.id then some p.x else px L y := by
  funext y
  unfold px
  rw [List.find?_cons]
  by_cases h : p.id = y
  · simp [h]
  · have h2 : ¬ (y = p.id) := fun e => h e.symm
    simp [h, h2]
theorem px_none {L : List Pt} {i : Int} (h : ∀ q ∈ L, q.id ≠ i) : px L i = none := by
  unfold px
  rw [List.find?_eq_none.2 (fun q hq => by simp [h q hq])]
  rfl
/-- A tree of points; X: all its blocks. -/
def TR (w : World) (base gt : Nat) (L : List Pt) (X : Nat → Prop) : Prop :=
  ∃ (gm : Nat) (ra : Option Addr) (t : PT) (S : Nat → Prop), w.heap[gt]? = some (.cells #[.map (some gm), .pointer ra] 55 (0, 0)) ∧ MapN w gm L.length (px L) ∧ TreeAt w base t (.pointer ra) S ∧ t.Ok ∧ t.pts.Perm L ∧ Ids L ∧ gt ≠ gm ∧ ¬ S gt ∧ ¬ S gm ∧ base ≤ gt ∧ base ≤ gm ∧ ∀ k, X k ↔ (k = gt ∨ k = gm ∨ S k)
theorem TR.fr {w w' : World} {base gt : Nat} {L : List Pt} {X Z : Nat → Prop} (h : TR w base gt L X) (hf : Fr w w' Z) (hz : ∀ k, X k → ¬ Z k) : TR w' base gt L X := by
  obtain ⟨gm, ra, t, S, h1, h2, h3, h4, h5, h6, h7, h8, h9, h10, h11, h12⟩ := h
  exact ⟨gm, ra, t, S, by rw [hf.block gt (Array.getElem?_eq_some_iff.1 h1).1 (hz gt ((h12 gt).2 (.inl rfl)))]; exact h1, h2.fr hf (hz gm ((h12 gm).2 (.inr (.inl rfl)))), h3.fr hf (fun k hk => hz k ((h12 k).2 (.inr (.inr hk)))), h4, h5, h6, h7, h8, h9, h10, h11, h12⟩
theorem TR.lt {w : World} {base gt : Nat} {L : List Pt} {X : Nat → Prop} (h : TR w base gt L X) : ∀ k, X k → base ≤ k ∧ k < w.heap.size := by
  obtain ⟨gm, ra, t, S, h1, h2, h3, h4, h5, h6, h7, h8, h9, h10, h11, h12⟩ := h
  intro k hk
  rcases (h12 k).1 hk with rfl | rfl | hk
  · exact ⟨h10, (Array.getElem?_eq_some_iff.1 h1).1⟩
  · exact ⟨h11, h2.mf.lt⟩
  · exact h3.lt k hk
theorem new_any (w : World) (base : Nat) (hb : base ≤ w.heap.size) : Calls Try.prog 8 #[] w fun e w' => ∃ (gt : Nat) (X : Nat → Prop), e = .returned (.pointer (some ⟨gt, 0, none⟩)) ∧ TR w' base gt [] X ∧ (∀ k, X k → w.heap.size ≤ k) ∧ Fr w w' (fun _ => False) := by
  have HRES : Hid (TR ((w.alloc (.map #[] 0)).alloc (.cells #[.map (some w.heap.size), .pointer none] 55)) base (w.heap.size + 1) [] (fun k => k = w.heap.size + 1 ∨ k = w.heap.size)) := hide (by
    have hz : (w.alloc (.map #[] 0)).heap.size = w.heap.size + 1 := by simp
    have b2 := heap_alloc_new (w.alloc (.map #[] 0)) (.cells #[.map (some w.heap.size), .pointer none] 55)
    rw [hz] at b2
    have hnil : TreeAt ((w.alloc (.map #[] 0)).alloc (.cells #[.map (some w.heap.size), .pointer none] 55)) base .nil (.pointer none) (fun _ => False) := ⟨rfl, fun _ h => h⟩
    exact ⟨w.heap.size, none, .nil, fun _ => False, b2, (mapN_new w).fr (Fr.alloc _ _ (fun _ => False)) (fun h => h), hnil, trivial, List.Perm.refl _, List.Pairwise.nil, by omega, fun h => h, fun h => h, by omega, hb, fun k => by simp⟩)
  have HF : Hid (Fr w ((w.alloc (.map #[] 0)).alloc (.cells #[.map (some w.heap.size), .pointer none] 55)) (fun _ => False)) := hide (((Fr.alloc w _ (fun _ => False)).trans (Fr.alloc _ _ (fun _ => False))).mono (fun _ _ h => h.elim (fun h => h) (fun h => h)))
  have hmk : ∀ V : World, (Instr.makeMap 52 none).run Try.prog V = .ok (.map (some V.heap.size)) (V.alloc (.map #[] 0)) := fun V => rfl
  go_enter Try.func8, Try.ntmps8
  go_wp2
  go_ret
  exact ⟨_, _, rfl, HRES.out, fun k hk => by omega, HF.out⟩
theorem len_any {w : World} {base gt : Nat} {L : List Pt} {X : Nat → Prop} (h : TR w base gt L X) : Calls Try.prog 10 #[.pointer (some ⟨gt, 0, none⟩)] w fun e w' => e = .returned (.int .i64 (L.length : Int)) ∧ w' = w := by
  obtain ⟨gm, ra, t, S, h1, h2, _⟩ := h
  have c0 : w.cell? ⟨gt, 0, none⟩ = some (.map (some gm)) := (cell_of_row _ _ _ _ _ _ h1).trans rfl
  have hlen := h2.len
  clear h1 h2
  go_enter Try.func10, Try.ntmps10
  go_wp2
  go_ret
  exact ⟨rfl, rfl⟩
def FindPost (w : World) (L : List Pt) (lo hi le : Int) (e : Ending) (w' : World) : Prop :=
  ∃ (v : Value) (T : List Pt), e = .returned v ∧ OwnPt w' v T ∧ T.Perm (L.filter (withinP lo hi le)) ∧ T.Pairwise aheadP ∧ Fr w w' (fun _ => False) ∧ ∀ k, v.ownBlock = some k → w.heap.size ≤ k
theorem findT_any {w : World} {base gt : Nat} {L : List Pt} {X : Nat → Prop} (h : TR w base gt L X) (hsz : L.length ≤ 1099511627776) (lo hi le : Int) : Calls Try.prog 12 #[.pointer (some ⟨gt, 0, none⟩), .int .i64 lo, .int .i64 hi, .int .i64 le] w fun e w' => FindPost w L lo hi le e w' := by
  obtain ⟨gm, ra, t, S, h1, h2, h3, h4, h5, h6, _⟩ := h
  have c1 : w.cell? ⟨gt, 1, none⟩ = some (.pointer ra) := (cell_of_row _ _ _ _ _ _ h1).trans rfl
  have hts : t.size = L.length := by rw [← t.length_pts, h5.length_eq]
  have HFI := hide (find_any lo hi le t w base _ S h3 h4 (.slice none 0 0) [] (OwnPt.nil w) (fun k hk => by cases hk) (by simp only [List.length_nil]; omega))
  have HP := hide h5
  have HI := hide h6
  clear h1 h2 h3 h4 h5 h6
  go_enter Try.func12, Try.ntmps12
  go_wp2_with fail
  refine HFI.out.mono ?_
  rintro e W1 ⟨v1, rfl, o1, f1, s1⟩
  rw [List.nil_append] at o1
  have hl : (t.pts.filter (withinP lo hi le)).length ≤ 8796093022000 := by
    have := List.length_filter_le (withinP lo hi le) t.pts
    rw [t.length_pts] at this
    omega
  have HSO := hide (sortP_any v1 _ W1 o1 hl)
  have HF1 : Hid (Fr w W1 (fun _ => False)) := hide (f1.mono (fun k _ h => by cases h))
  have HS1 : Hid (∀ k, v1.ownBlock = some k → w.heap.size ≤ k) := hide (fun k hk => by
    rcases s1 with h | ⟨q, h, h2⟩
    · rw [h] at hk; cases hk
    · rw [h] at hk; cases hk; exact h2)
  clear o1 f1 s1 hl HFI c1
  go_wp2_with fail
  refine HSO.out.mono ?_
  rintro e W2 ⟨rfl, T, hpm, hst, o2, f2⟩
  have HRES : Hid (FindPost w L lo hi le (.returned v1) W2) := hide (by
    have hpf : (t.pts.filter (withinP lo hi le)).Perm (L.filter (withinP lo hi le)) := HP.out.filter _
    refine ⟨v1, T, rfl, o2, hpm.trans hpf, strict hst (Ids.perm (L := L.filter (withinP lo hi le)) (List.Pairwise.sublist List.filter_sublist HI.out) (hpm.trans hpf).symm), (HF1.out.trans f2).mono (fun k hk h => by rcases h with h | h; exact h; (have := HS1.out k h; omega)), HS1.out⟩)
  clear hpm hst o2 f2 HSO
  go_wp2
  go_ret
  exact HRES.out
end Go.Proofs.Ytklnaeldhdhmiaa
