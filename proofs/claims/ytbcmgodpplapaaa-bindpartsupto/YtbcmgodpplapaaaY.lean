/- A drawn region by what is kept whatever order is picked. -/
import Derived.Test.YtbcmgodpplapaaaX
namespace Go.Proofs.Ytbcmgodpplapaaa
open Go.RowKit
set_option maxRecDepth 100000
set_option linter.unusedVariables false
set_option linter.unusedSimpArgs false

section
variable {P : Program} {ops : Array Oper} {Q : Exit → Act → World → Prop} {md : Region.Mode}
/-- How many are not listed yet. -/
def unl (listed : Array Bool) : Nat := (listed.toList.filter (fun b => !b)).length
theorem unl_set : ∀ (l : List Bool) (i : Nat), l[i]? = some false → ((l.set i true).filter (fun b => !b)).length + 1 = (l.filter (fun b => !b)).length
  | [], i, h => by simp at h
  | b :: l, 0, h => by
    simp only [List.getElem?_cons_zero, Option.some.injEq] at h
    subst h
    simp
  | b :: l, i + 1, h => by
    simp only [List.getElem?_cons_succ] at h
    have := unl_set l i h
    cases b <;> simp at this ⊢ <;> omega
theorem all_listed (hback : ∀ (i : Nat) (o : Oper), ops[i]? = some o → ∀ e ∈ o.after, e.on < i) {listed : Array Bool} (hs : listed.size = ops.size) (hr : Region.ready md ops listed = []) : ∀ n i, i < n → i < ops.size → listed.getD i false = true
  | 0, i, h, _ => absurd h (by omega)
  | n + 1, i, h, hi => by
    rcases Nat.lt_or_ge i n with hlt | hge
    · exact all_listed hback hs hr n i hlt hi
    · obtain rfl : i = n := by omega
      have hls : i < listed.size := by rw [hs]; exact hi
      cases hb : listed[i]'hls with
      | true => simp [Array.getD_eq_getD_getElem?, Array.getElem?_eq_getElem hls, hb]
      | false =>
        exfalso
        have hmem : i ∈ Region.ready md ops listed := by
          rw [mem_ready]
          refine ⟨by simp [Array.getD_eq_getD_getElem?, Array.getElem?_eq_getElem hls, hb], ops[i], Array.getElem?_eq_getElem hi, ?_⟩
          intro e he _
          have hlt := hback i _ (Array.getElem?_eq_getElem hi) e he
          exact all_listed hback hs hr i e.on hlt (by omega)
        rw [hr] at hmem
        cases hmem
theorem wpAny_inv (I : Array Bool → Act → World → Prop) (hback : ∀ (i : Nat) (o : Oper), ops[i]? = some o → ∀ e ∈ o.after, e.on < i)
    (hstep : ∀ listed a w i, I listed a w → i ∈ Region.ready md ops listed → wpOp P ops Q i (I (listed.setIfInBounds i true)) a w)
    (hend : ∀ listed a w, I listed a w → (∀ i, i < ops.size → listed.getD i false = true) → Q .normal a w) :
    ∀ (fuel : Nat) (listed : Array Bool) (a : Act) (w : World), listed.size = ops.size → unl listed ≤ fuel → I listed a w → wpAny P md ops Q fuel listed a w
  | 0, listed, a, w, hs, hu, hI => by
    have hall : ∀ i, i < ops.size → listed.getD i false = true := by
      intro i hi
      have hls : i < listed.size := by rw [hs]; exact hi
      cases hb : listed[i]'hls with
      | true => simp [Array.getD_eq_getD_getElem?, Array.getElem?_eq_getElem hls, hb]
      | false =>
        have := unl_set listed.toList i (by simp [hls, hb])
        unfold unl at hu
        omega
    refine ⟨?_, hend listed a w hI hall⟩
    apply List.eq_nil_iff_forall_not_mem.2
    intro i hi
    rw [mem_ready] at hi
    obtain ⟨h0, o, ho, _⟩ := hi
    have hlt : i < ops.size := (Array.getElem?_eq_some_iff.1 ho).1
    have h1 := hall i hlt
    have hls : i < listed.size := by rw [hs]; exact hlt
    simp [Array.getD_eq_getD_getElem?, Array.getElem?_eq_getElem hls] at h0 h1
    rw [h0] at h1
    cases h1
  | fuel + 1, listed, a, w, hs, hu, hI => by
    refine ⟨fun hr => hend listed a w hI (fun i hi => all_listed hback hs hr (i + 1) i (by omega) hi), fun i hi => ?_⟩
    refine wpOp_mono (fun a' w' h' => wpAny_inv I hback hstep hend fuel _ a' w' (by simpa using hs) ?_ h') (hstep listed a w i hI hi)
    rw [mem_ready] at hi
    obtain ⟨h0, o, ho, _⟩ := hi
    have hlt : i < ops.size := (Array.getElem?_eq_some_iff.1 ho).1
    have hls : i < listed.size := by rw [hs]; exact hlt
    have h1 : listed.toList[i]? = some false := by
      simp [Array.getD_eq_getD_getElem?, Array.getElem?_eq_getElem hls] at h0
      simp [hls, h0]
    have := unl_set listed.toList i h1
    unfold unl at hu ⊢
    rw [Array.toList_setIfInBounds]
    omega
theorem wp_region_inv (I : Array Bool → Act → World → Prop) {id : Nat} {a : Act} {w : World} (hm : P.follows .mixedOrders = true) (hback : ∀ (i : Nat) (o : Oper), ops[i]? = some o → ∀ e ∈ o.after, e.on < i)
    (h0 : I (Array.replicate ops.size false) a w.drew)
    (hstep : ∀ listed a w i, I listed a w → i ∈ Region.ready .any ops listed → wpOp P ops Q i (I (listed.setIfInBounds i true)) a w)
    (hend : ∀ listed a w, I listed a w → (∀ i, i < ops.size → listed.getD i false = true) → Q .normal a w) : (Code.region id ops true).wp P Q a w := by
  refine wp_region_any hm (wpAny_inv I hback hstep hend _ _ _ _ (by simp) ?_ h0)
  unfold unl
  refine Nat.le_trans (List.length_filter_le _ _) ?_
  simp
end
/-- The operations of the region of a number. -/
def regionOf (k : Nat) : Code → Option (Array Oper)
  | .region id ops _ => if id = k then some ops else none
  | .seq a b => (regionOf k a).or (regionOf k b)
  | .cond _ a b => (regionOf k a).or (regionOf k b)
  | .block _ a => regionOf k a
  | _ => none
noncomputable def R4 : Array Oper := (Try.f6.body.bind (regionOf 4)).getD #[]
theorem R4_size : R4.size = 61 := by kernel_rfl
def backB (ops : Array Oper) : Bool := (List.range ops.size).all fun i => match ops[i]? with | some o => o.after.all (fun e => decide (e.on < i)) | none => true
theorem R4_back : ∀ (i : Nat) (o : Oper), R4[i]? = some o → ∀ e ∈ o.after, e.on < i := by
  have h : backB R4 = true := by kernel_rfl
  intro i o ho e he
  unfold backB at h
  rw [List.all_eq_true] at h
  have hlt : i < R4.size := (Array.getElem?_eq_some_iff.1 ho).1
  have := h i (List.mem_range.2 hlt)
  rw [ho] at this
  simp only [Array.all_eq_true_iff_forall_mem] at this
  simpa using this e he
end Go.Proofs.Ytbcmgodpplapaaa
