/- Maps keyed by numbers that the call makes. -/
import Derived.Test.YtcmabldfegcdaaaB
import Derived.Maps.Own
import Derived.Maps.OwnOps
import Derived.Maps.OwnSet
import Derived.Maps.RangeWalk
namespace Go.Proofs.Ytcmabldfegcdaaa
open Go.RowKit
set_option maxRecDepth 100000
set_option linter.unusedVariables false

/-- A number of 64 bits. -/
def In64 (x : Int) : Prop := -9223372036854775808 ≤ x ∧ x ≤ 9223372036854775807
theorem In64.wf {x : Int} (h : In64 x) : (Lit.int .i64 x).wf = true := WalkArith.wf_i64 (by unfold In64 at h; omega)
theorem in64_of {x : Int} (h : (Lit.int .i64 x).wf = true) : In64 x := by have := bounds_i64 h; exact ⟨this.1, this.2⟩

/-- How the elements of a map read. -/
structure Elem (β : Type) where
  t : TypeId
  k : TypeId
  e : TypeId
  ht : Try.prog.underlying t = some (.map k e)
  hk : Try.prog.underlying k = some (.int .i64)
  R : Value → Option (DataW Unit × List MemPlace)
  val : β → Value
  dat : β → DataW Unit
  z : β
  hz : ∀ w, (zeroValue e).run Try.prog w = .ok (val z) w
  hR : ∀ b, R (val b) = some (dat b, [])
  inv : ∀ v y, R v = some y → ∃ b, v = val b ∧ y.1 = dat b
  inj : ∀ a b, dat a = dat b → a = b

/-- A map of at most n entries that says f. -/
def MapF {β : Type} (E : Elem β) (w : World) (gm n : Nat) (f : Int → Option β) : Prop :=
  ∃ D : DataW Unit, w.ownsMap Try.prog E.k E.R gm n D ∧ ∀ x, In64 x → Maps.has D (.int .i64 x) = (f x).isSome ∧ ∀ b zd, f x = some b → D.atKey (.int .i64 x) zd = E.dat b
theorem MapF.fr {β : Type} {E : Elem β} {w w' : World} {X : Nat → Prop} {gm n : Nat} {f : Int → Option β} (h : MapF E w gm n f) (hf : Fr w w' X) (hx : ¬ X gm) : MapF E w' gm n f := by
  obtain ⟨D, ⟨es, clock, hb, r⟩, h2⟩ := h
  exact ⟨D, ⟨es, clock, by rw [hf.block gm (Array.getElem?_eq_some_iff.1 hb).1 hx]; exact hb, r⟩, h2⟩
theorem MapF.lt {β : Type} {E : Elem β} {w : World} {gm n : Nat} {f : Int → Option β} (h : MapF E w gm n f) : gm < w.heap.size := by
  obtain ⟨D, ⟨es, clock, hb, r⟩, h2⟩ := h
  exact (Array.getElem?_eq_some_iff.1 hb).1
theorem MapF.more {β : Type} {E : Elem β} {w : World} {gm n n' : Nat} {f : Int → Option β} (h : MapF E w gm n f) (hn : n ≤ n') : MapF E w gm n' f := by
  obtain ⟨D, hown, h2⟩ := h
  exact ⟨D, hown.mono hn, h2⟩
theorem MapF.congr {β : Type} {E : Elem β} {w : World} {gm n : Nat} {f g : Int → Option β} (h : MapF E w gm n f) (hg : ∀ x, In64 x → g x = f x) : MapF E w gm n g := by
  obtain ⟨D, hown, h2⟩ := h
  exact ⟨D, hown, fun x hx => by rw [hg x hx]; exact h2 x hx⟩
theorem map_new {β : Type} (E : Elem β) (w : World) : MapF E (w.alloc (.map #[] 0)) w.heap.size 0 (fun _ => none) :=
  ⟨.map [], World.ownsMap_made w _ _ _, fun x _ => ⟨rfl, fun b zd h => by cases h⟩⟩
theorem MapF.at {β : Type} {E : Elem β} {D : DataW Unit} {f : Int → Option β} {x : Int} (hx : In64 x) (h2 : ∀ x, In64 x → Maps.has D (.int .i64 x) = (f x).isSome ∧ ∀ b zd, f x = some b → D.atKey (.int .i64 x) zd = E.dat b) : D.atKey (.int .i64 x) (E.dat E.z) = E.dat ((f x).getD E.z) := by
  obtain ⟨a1, a2⟩ := h2 x hx
  cases hf : f x with
  | none => rw [hf] at a1; exact Maps.atKey_of_not_has a1 _
  | some b => exact a2 b _ hf
/-- m[x]. -/
theorem MapF.look {β : Type} {E : Elem β} {w : World} {gm n : Nat} {f : Int → Option β} (h : MapF E w gm n f) {x : Int} (hx : In64 x) : (Instr.lookup E.t (.map (some gm)) (.int .i64 x) false).run Try.prog w = .ok (E.val ((f x).getD E.z)) w := by
  obtain ⟨D, hown, h2⟩ := h
  obtain ⟨v, ps, hrun, hv⟩ := hown.lookup (Maps.int_keyed E.hk) E.ht (E.hz w) (E.hR E.z) (Maps.keyOf_int_mk E.hk hx.wf)
  obtain ⟨b, rfl, hb⟩ := E.inv v _ hv
  have hb : D.atKey (.int .i64 x) (E.dat E.z) = E.dat b := hb
  rw [MapF.at hx h2] at hb
  rw [hrun, E.inj _ _ hb]
theorem MapF.look_ok {β : Type} {E : Elem β} {w : World} {gm n : Nat} {f : Int → Option β} (h : MapF E w gm n f) {x : Int} (hx : In64 x) : (Instr.lookup E.t (.map (some gm)) (.int .i64 x) true).run Try.prog w = .ok (.tuple #[E.val ((f x).getD E.z), .bool (f x).isSome]) w := by
  obtain ⟨D, hown, h2⟩ := h
  obtain ⟨v, ps, hrun, hv⟩ := hown.look_ok (Maps.int_keyed E.hk) E.ht (E.hz w) (E.hR E.z) (Maps.keyOf_int_mk E.hk hx.wf)
  obtain ⟨b, rfl, hb⟩ := E.inv v _ hv
  have hb : D.atKey (.int .i64 x) (E.dat E.z) = E.dat b := hb
  rw [MapF.at hx h2] at hb
  rw [hrun, E.inj _ _ hb, (h2 x hx).1]
/-- m[x] = b. -/
theorem MapF.put {β : Type} {E : Elem β} {w : World} {gm n : Nat} {f : Int → Option β} (h : MapF E w gm n f) (hn : n < maxLen) {x : Int} (hx : In64 x) (b : β) : ∃ w', (Instr.mapUpdate E.t (.map (some gm)) (.int .i64 x) (E.val b)).run Try.prog w = .ok () w' ∧ MapF E w' gm (n + 1) (fun y => if y = x then some b else f y) ∧ Fr w w' (fun k => k = gm) := by
  obtain ⟨D, hown, h2⟩ := h
  have K := Maps.int_keyed E.hk
  obtain ⟨w', hrun, r1, r2⟩ := hown.update K E.ht hn (Maps.keyOf_int_mk E.hk hx.wf) (E.hR b)
  refine ⟨w', hrun, ⟨_, r1, fun y hy => ?_⟩, (Fr.grown r2).mono (fun q _ h => (Option.some.inj h).symm)⟩
  have hM := (hown.tidy K).isMap
  have hkey : WideAt.IsKeyLit (.int .i64 x) := trivial
  by_cases hyx : y = x
  · subst hyx
    refine ⟨by rw [Maps.has_put_same hM hkey]; simp, fun b' zd hb => ?_⟩
    have hb : (if y = y then some b else f y) = some b' := hb
    rw [if_pos rfl] at hb
    cases hb
    rw [Maps.atKey_put_same hM hkey]
  · have hne : (Lit.int .i64 y) ≠ .int .i64 x := fun h => hyx (by injection h)
    refine ⟨by rw [Maps.has_put_other hne, (h2 y hy).1]; simp [hyx], fun b' zd hb => ?_⟩
    have hb : (if y = x then some b else f y) = some b' := hb
    rw [if_neg hyx] at hb
    rw [Maps.atKey_put_other hne]
    exact (h2 y hy).2 b' zd hb

/-- A map that is being gone through: which keys are still to come. -/
def RangF {β : Type} (E : Elem β) (w : World) (gm r n : Nat) (f : Int → Option β) (left : Int → Bool) (cnt : Nat) : Prop :=
  ∃ (D : DataW Unit) (lf : Lit → Bool), w.ranges Try.prog E.k E.R gm r n D lf cnt ∧ (∀ x, In64 x → lf (.int .i64 x) = left x) ∧ ∀ x, In64 x → Maps.has D (.int .i64 x) = (f x).isSome ∧ ∀ b zd, f x = some b → D.atKey (.int .i64 x) zd = E.dat b
theorem RangF.owns {β : Type} {E : Elem β} {w : World} {gm r n : Nat} {f : Int → Option β} {left : Int → Bool} {cnt : Nat} (h : RangF E w gm r n f left cnt) : MapF E w gm n f := by
  obtain ⟨D, lf, h1, h2, h3⟩ := h
  exact ⟨D, h1.owns, h3⟩
theorem RangF.fr {β : Type} {E : Elem β} {w w' : World} {X : Nat → Prop} {gm r n : Nat} {f : Int → Option β} {left : Int → Bool} {cnt : Nat} (h : RangF E w gm r n f left cnt) (hf : Fr w w' X) (hx : ¬ X gm) (hr : ¬ X r) : RangF E w' gm r n f left cnt := by
  obtain ⟨D, lf, ⟨es, clock, since, seen, c0, hb, F, hs, hD, hr0, rest⟩, h2⟩ := h
  exact ⟨D, lf, ⟨es, clock, since, seen, c0, by rw [hf.block gm (Array.getElem?_eq_some_iff.1 hb).1 hx]; exact hb, F, hs, hD, by rw [hf.block r (Array.getElem?_eq_some_iff.1 hr0).1 hr]; exact hr0, rest⟩, h2⟩
theorem RangF.left_eq {β : Type} {E : Elem β} {w : World} {gm r n : Nat} {f : Int → Option β} {left : Int → Bool} {cnt : Nat} (h : RangF E w gm r n f left cnt) : w.rangeLeft gm r = cnt := by
  obtain ⟨D, lf, h1, h2⟩ := h
  exact h1.left_eq
/-- range m. -/
theorem wpList_rangeF {β : Type} {E : Elem β} {w : World} {ops : Array Oper} {rest : List Oper} {o : Oper} {a : Act} {Q : Exit → Act → World → Prop} (hg : o.guard = none) (m : Operand) (hop : o.op = Op.range E.t m) (gm n : Nat) (f : Int → Option β) (hm : a.eval m = .map (some gm)) (h : MapF E w gm n f)
    (hK : ∀ w' cnt, cnt ≤ n → RangF E w' gm w.heap.size n f (fun x => (f x).isSome) cnt → Fr w w' (fun _ => False) → w'.heap.size = w.heap.size + 1 → wpList Try.prog ops Q rest (a.put o.dst (.pointer (some ⟨w.heap.size, 0, none⟩))) w') : wpList Try.prog ops Q (o :: rest) a w := by
  obtain ⟨D, hown, h2⟩ := h
  refine wpList_range_own w hg m E.t hop E.k E.e (Maps.int_keyed E.hk) E.ht E.R gm n D hm hown ?_
  intro w' h1 h3 h4
  exact hK w' _ hown.size_le ⟨D, _, h1, fun x hx => (h2 x hx).1, h2⟩ ((Fr.grown h3).mono (fun q _ h => by cases h)) h4
/-- The next entry. -/
theorem wpList_nextF {β : Type} {E : Elem β} {w : World} {ops : Array Oper} {rest : List Oper} {o : Oper} {a : Act} {Q : Exit → Act → World → Prop} (hg : o.guard = none) (it : Operand) (hop : o.op = Op.next it false) (gm r n : Nat) (f : Int → Option β) (left : Int → Bool) (cnt : Nat) (hit : a.eval it = .pointer (some ⟨r, 0, none⟩)) (h : RangF E w gm r n f left cnt)
    (hDone : (∀ x, In64 x → left x = false) → wpList Try.prog ops Q rest (a.put o.dst (.tuple #[.bool false])) w)
    (hMore : ∀ x b w' cnt', In64 x → left x = true → f x = some b → RangF E w' gm r n f (fun z => left z && z != x) cnt' → cnt' < cnt → Fr w w' (fun k => k = r) → w'.heap.size = w.heap.size → (Instr.entry (.pointer (some ⟨r, 0, none⟩))).run Try.prog w' = .ok (.tuple #[.int .i64 x, E.val b]) w' → wpList Try.prog ops Q rest (a.put o.dst (.tuple #[.bool true, .int .i64 x, E.val b])) w') : wpList Try.prog ops Q (o :: rest) a w := by
  obtain ⟨D, lf, h1, h2, h3⟩ := h
  refine wpList_next_ranges w hg it hop E.k (Maps.int_keyed E.hk) E.R (fun x : Int => Value.int .i64 x) E.val (fun key kl hkey => by obtain ⟨x, rfl, _⟩ := Maps.keyOf_int_inv E.hk hkey; exact ⟨x, rfl⟩) (fun v y hv => by obtain ⟨b, hb, _⟩ := E.inv v y hv; exact ⟨b, hb⟩) gm r n D lf cnt hit h1 ?_ ?_
  · intro _ hl
    exact hDone fun x hx => by rw [← h2 x hx]; exact hl _
  · intro x b kl y w' cnt' hkey hlk hv hat hrg hlt hgr hsz hen
    obtain ⟨x', ex, rfl, hwx⟩ := Maps.keyOf_int_inv E.hk hkey
    cases ex
    have hx := in64_of hwx
    have hhas : (f x).isSome = true := by rw [← (h3 x hx).1]; exact Maps.has_true_of_atKey hat
    obtain ⟨b', hb'⟩ := Option.isSome_iff_exists.1 hhas
    have hbb : b' = b := by
      refine E.inj _ _ ?_
      have e1 := (h3 x hx).2 b' (E.dat E.z) hb'
      rw [hat] at e1
      obtain ⟨b2, hb2, hy⟩ := E.inv _ _ hv
      have e2 := E.hR b
      rw [hv] at e2
      cases e2
      exact e1.symm
    subst hbb
    refine hMore x b' w' cnt' hx (by rw [← h2 x hx]; exact hlk) hb' ⟨D, _, hrg, fun z hz => ?_, h3⟩ hlt ((Fr.grown hgr).mono (fun q _ h => (Option.some.inj h).symm)) hsz hen
    show (lf (.int .i64 z) && !(Lit.int .i64 z).sameKey (.int .i64 x)) = (left z && z != x)
    rw [h2 z hz]
    congr 1
    simp [Lit.sameKey, bne]
    rfl
end Go.Proofs.Ytcmabldfegcdaaa
