/- Maps that the call makes: by keys of any kind, with elements of any reading. -/
import Derived.Test.YtigkinakhijfoaaGreatB
import Derived.Maps.Own
import Derived.Maps.OwnOps
import Derived.Maps.OwnSet
import Derived.Maps.RangeWalk
import Derived.StringKeys
namespace Go.Proofs.YtigkinakhijfoaaGreat
open Go.RowKit
set_option maxRecDepth 100000
set_option linter.unusedVariables false

/-- How the keys and the elements of a map read. -/
structure Elem (κ β : Type) [DecidableEq κ] where
  t : TypeId
  k : TypeId
  e : TypeId
  ht : Tryz.prog.underlying t = some (.map k e)
  K : Maps.Keyed Tryz.prog k
  kv : κ → Value
  kl : κ → Lit
  ok : κ → Prop
  hkey : ∀ x, ok x → keyOf Tryz.prog k (kv x) = some (kl x)
  kinv : ∀ v l, keyOf Tryz.prog k v = some l → ∃ x, v = kv x ∧ l = kl x ∧ ok x
  kinj : ∀ x y, kl x = kl y → x = y
  vinj : ∀ x y, kv x = kv y → x = y
  kkey : ∀ x, WideAt.IsKeyLit (kl x)
  R : Value → Option (DataW Unit × List MemPlace)
  val : β → Value
  dat : β → DataW Unit
  z : β
  hz : ∀ w, (zeroValue e).run Tryz.prog w = .ok (val z) w
  hR : ∀ b, R (val b) = some (dat b, [])
  inv : ∀ v y, R v = some y → ∃ b, v = val b ∧ y.1 = dat b
  inj : ∀ a b, dat a = dat b → a = b

section
variable {κ β : Type} [DecidableEq κ]
/-- What a reading says. -/
def Says (E : Elem κ β) (D : DataW Unit) (f : κ → Option β) : Prop := ∀ x, E.ok x → Maps.has D (E.kl x) = (f x).isSome ∧ ∀ b zd, f x = some b → D.atKey (E.kl x) zd = E.dat b
/-- A map of at most n entries that says f. -/
def MapF (E : Elem κ β) (w : World) (gm n : Nat) (f : κ → Option β) : Prop :=
  ∃ D : DataW Unit, w.ownsMap Tryz.prog E.k E.R gm n D ∧ Says E D f
theorem MapF.fr {E : Elem κ β} {w w' : World} {X : Nat → Prop} {gm n : Nat} {f : κ → Option β} (h : MapF E w gm n f) (hf : Fr w w' X) (hx : ¬ X gm) : MapF E w' gm n f := by
  obtain ⟨D, ⟨es, clock, hb, r⟩, h2⟩ := h
  exact ⟨D, ⟨es, clock, by rw [hf.block gm (Array.getElem?_eq_some_iff.1 hb).1 hx]; exact hb, r⟩, h2⟩
theorem MapF.lt {E : Elem κ β} {w : World} {gm n : Nat} {f : κ → Option β} (h : MapF E w gm n f) : gm < w.heap.size := by
  obtain ⟨D, ⟨es, clock, hb, r⟩, h2⟩ := h
  exact (Array.getElem?_eq_some_iff.1 hb).1
theorem MapF.more {E : Elem κ β} {w : World} {gm n n' : Nat} {f : κ → Option β} (h : MapF E w gm n f) (hn : n ≤ n') : MapF E w gm n' f := by
  obtain ⟨D, hown, h2⟩ := h
  exact ⟨D, hown.mono hn, h2⟩
theorem MapF.congr {E : Elem κ β} {w : World} {gm n : Nat} {f g : κ → Option β} (h : MapF E w gm n f) (hg : ∀ x, E.ok x → g x = f x) : MapF E w gm n g := by
  obtain ⟨D, hown, h2⟩ := h
  exact ⟨D, hown, fun x hx => by rw [hg x hx]; exact h2 x hx⟩
theorem Says.at {E : Elem κ β} {D : DataW Unit} {f : κ → Option β} {x : κ} (hx : E.ok x) (h2 : Says E D f) : D.atKey (E.kl x) (E.dat E.z) = E.dat ((f x).getD E.z) := by
  obtain ⟨a1, a2⟩ := h2 x hx
  cases hf : f x with
  | none => rw [hf] at a1; exact Maps.atKey_of_not_has a1 _
  | some b => exact a2 b _ hf
/-- m[x]. -/
theorem MapF.look {E : Elem κ β} {w : World} {gm n : Nat} {f : κ → Option β} (h : MapF E w gm n f) {x : κ} (hx : E.ok x) : (Instr.lookup E.t (.map (some gm)) (E.kv x) false).run Tryz.prog w = .ok (E.val ((f x).getD E.z)) w := by
  obtain ⟨D, hown, h2⟩ := h
  obtain ⟨v, ps, hrun, hv⟩ := hown.lookup E.K E.ht (E.hz w) (E.hR E.z) (E.hkey x hx)
  obtain ⟨b, rfl, hb⟩ := E.inv v _ hv
  have hb : D.atKey (E.kl x) (E.dat E.z) = E.dat b := hb
  rw [Says.at hx h2] at hb
  rw [hrun, E.inj _ _ hb]
theorem MapF.look_ok {E : Elem κ β} {w : World} {gm n : Nat} {f : κ → Option β} (h : MapF E w gm n f) {x : κ} (hx : E.ok x) : (Instr.lookup E.t (.map (some gm)) (E.kv x) true).run Tryz.prog w = .ok (.tuple #[E.val ((f x).getD E.z), .bool (f x).isSome]) w := by
  obtain ⟨D, hown, h2⟩ := h
  obtain ⟨v, ps, hrun, hv⟩ := hown.look_ok E.K E.ht (E.hz w) (E.hR E.z) (E.hkey x hx)
  obtain ⟨b, rfl, hb⟩ := E.inv v _ hv
  have hb : D.atKey (E.kl x) (E.dat E.z) = E.dat b := hb
  rw [Says.at hx h2] at hb
  rw [hrun, E.inj _ _ hb, (h2 x hx).1]
/-- m[x] = b. -/
theorem MapF.put {E : Elem κ β} {w : World} {gm n : Nat} {f : κ → Option β} (h : MapF E w gm n f) (hn : n < maxLen) {x : κ} (hx : E.ok x) (b : β) : ∃ w', (Instr.mapUpdate E.t (.map (some gm)) (E.kv x) (E.val b)).run Tryz.prog w = .ok () w' ∧ MapF E w' gm (n + 1) (fun y => if y = x then some b else f y) ∧ Fr w w' (fun k => k = gm) := by
  obtain ⟨D, hown, h2⟩ := h
  obtain ⟨w', hrun, r1, r2⟩ := hown.update E.K E.ht hn (E.hkey x hx) (E.hR b)
  refine ⟨w', hrun, ⟨_, r1, fun y hy => ?_⟩, (Fr.grown r2).mono (fun q _ h => (Option.some.inj h).symm)⟩
  have hM := (hown.tidy E.K).isMap
  by_cases hyx : y = x
  · subst hyx
    refine ⟨by rw [Maps.has_put_same hM (E.kkey y)]; simp, fun b' zd hb => ?_⟩
    have hb : (if y = y then some b else f y) = some b' := hb
    rw [if_pos rfl] at hb
    cases hb
    rw [Maps.atKey_put_same hM (E.kkey y)]
  · have hne : E.kl y ≠ E.kl x := fun h => hyx (E.kinj _ _ h)
    refine ⟨by rw [Maps.has_put_other hne, (h2 y hy).1]; simp [hyx], fun b' zd hb => ?_⟩
    have hb : (if y = x then some b else f y) = some b' := hb
    rw [if_neg hyx] at hb
    rw [Maps.atKey_put_other hne]
    exact (h2 y hy).2 b' zd hb
/-- delete(m, x). -/
theorem MapF.del {E : Elem κ β} {w : World} {gm n : Nat} {f : κ → Option β} (h : MapF E w gm n f) {x : κ} (hx : E.ok x) (ty : TypeId) : ∃ w', (Builtin.delete_ #[E.t, E.k] ty #[.map (some gm), E.kv x]).run Tryz.prog w = .ok (.tuple #[]) w' ∧ MapF E w' gm n (fun y => if y = x then none else f y) ∧ Fr w w' (fun k => k = gm) := by
  obtain ⟨D, hown, h2⟩ := h
  obtain ⟨w', hrun, r1, r2⟩ := hown.drop E.K E.ht (E.hkey x hx) ty
  refine ⟨w', hrun, ⟨_, r1, fun y hy => ?_⟩, (Fr.grown r2.grown).mono (fun q _ h => (Option.some.inj h).symm)⟩
  by_cases hyx : y = x
  · subst hyx
    exact ⟨by rw [Maps.has_del_same]; simp, fun b' zd hb => by simp at hb⟩
  · have hne : E.kl y ≠ E.kl x := fun h => hyx (E.kinj _ _ h)
    refine ⟨by rw [Maps.has_del_other hne, (h2 y hy).1]; simp [hyx], fun b' zd hb => ?_⟩
    have hb : (if y = x then none else f y) = some b' := hb
    rw [if_neg hyx] at hb
    rw [Maps.atKey_del_other hne]
    exact (h2 y hy).2 b' zd hb
/-- len(m). -/
theorem MapF.len {E : Elem κ β} {w : World} {gm n : Nat} {f : κ → Option β} (h : MapF E w gm n f) : ∃ m : Nat, (∀ ty, (Builtin.len_ #[E.t] ty #[.map (some gm)]).run Tryz.prog w = .ok (.int .i64 m) w) ∧ m ≤ n ∧ (m = 0 ↔ ∀ x, E.ok x → f x = none) := by
  obtain ⟨D, hown, h2⟩ := h
  refine ⟨Maps.size D, fun ty => hown.len E.ht ty, hown.size_le, ?_⟩
  obtain ⟨es, clock, hb, F, hs, rfl⟩ := hown
  constructor
  · intro h0 x hx
    have h1 := (h2 x hx).1
    simp only [Maps.size, length_sorted, List.length_map] at h0
    have : es.toList = [] := List.eq_nil_of_length_eq_zero h0
    rw [this] at h1
    simp [Maps.has] at h1
    exact h1
  · intro hall
    simp only [Maps.size, length_sorted, List.length_map]
    cases hes : es.toList with
    | nil => rfl
    | cons x l =>
      exfalso
      obtain ⟨y, hy⟩ := F.reads x (by rw [hes]; simp)
      obtain ⟨k, _, hkl, hok⟩ := E.kinv _ _ (WideElems.rd_key hy)
      have h1 := (h2 k hok).1
      rw [hall k hok] at h1
      have : Maps.has (DataW.map ((es.toList.map (WideElems.rg Tryz.prog E.k E.R)).foldr DataW.insert [])) (E.kl k) = true := by
        rw [← hkl]
        have hm : WideElems.rg Tryz.prog E.k E.R x ∈ (es.toList.map (WideElems.rg Tryz.prog E.k E.R)).foldr DataW.insert [] := mem_sorted.2 (List.mem_map.2 ⟨x, by rw [hes]; simp, rfl⟩)
        rw [WideElems.rg_of hy] at hm
        exact List.any_eq_true.2 ⟨_, hm, WideAt.sameKey_self (E.K.key (WideElems.rd_key hy))⟩
      rw [this] at h1
      cases h1

/-- A map that is being gone through: which keys are still to come. -/
def RangF (E : Elem κ β) (w : World) (gm r n : Nat) (f : κ → Option β) (left : κ → Bool) (cnt : Nat) : Prop :=
  ∃ (D : DataW Unit) (lf : Lit → Bool), w.ranges Tryz.prog E.k E.R gm r n D lf cnt ∧ (∀ x, E.ok x → lf (E.kl x) = left x) ∧ Says E D f
theorem RangF.fr {E : Elem κ β} {w w' : World} {X : Nat → Prop} {gm r n : Nat} {f : κ → Option β} {left : κ → Bool} {cnt : Nat} (h : RangF E w gm r n f left cnt) (hf : Fr w w' X) (hx : ¬ X gm) (hr : ¬ X r) : RangF E w' gm r n f left cnt := by
  obtain ⟨D, lf, ⟨es, clock, since, seen, c0, hb, F, hs, hD, hr0, rest⟩, h2⟩ := h
  exact ⟨D, lf, ⟨es, clock, since, seen, c0, by rw [hf.block gm (Array.getElem?_eq_some_iff.1 hb).1 hx]; exact hb, F, hs, hD, by rw [hf.block r (Array.getElem?_eq_some_iff.1 hr0).1 hr]; exact hr0, rest⟩, h2⟩
theorem RangF.ne {E : Elem κ β} {w : World} {gm r n : Nat} {f : κ → Option β} {left : κ → Bool} {cnt : Nat} (h : RangF E w gm r n f left cnt) : r ≠ gm := by
  obtain ⟨D, lf, h1, h2⟩ := h
  exact h1.ne
theorem RangF.lt {E : Elem κ β} {w : World} {gm r n : Nat} {f : κ → Option β} {left : κ → Bool} {cnt : Nat} (h : RangF E w gm r n f left cnt) : r < w.heap.size := by
  obtain ⟨D, lf, h1, h2⟩ := h
  exact h1.lt
end
end Go.Proofs.YtigkinakhijfoaaGreat
