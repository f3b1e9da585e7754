/- A set of numbers in a map; how many numbers a rising list has. -/
import Derived.Test.YtanfbfmpppfbhaaKp
namespace Go.Proofs.Ytanfbfmpppfbhaa
open Go.RowKit
set_option maxRecDepth 100000
set_option linter.unusedVariables false
set_option linter.unusedSimpArgs false

def rdB (v : Value) : Option (DataW Unit × List MemPlace) := match v with
  | .bool a => some (.lit (.bool a), [])
  | _ => none
/-- Truths by numbers. -/
def EB : Elem Int Bool where
  t := 59
  k := 2
  e := 4
  ht := Try.underlying59
  K := Maps.int_keyed Try.underlying2
  kv := fun x => .int .i64 x
  kl := fun x => .int .i64 x
  ok := In64
  hkey := fun x hx => Maps.keyOf_int_mk Try.underlying2 hx.wf
  kinv := fun v l h => by obtain ⟨x, h1, h2, h3⟩ := Maps.keyOf_int_inv Try.underlying2 h; exact ⟨x, h1, h2, in64_of h3⟩
  kinj := fun x y h => by injection h
  vinj := fun x y h => by injection h
  kkey := fun x => trivial
  R := rdB
  val := fun x => .bool x
  dat := fun x => .lit (.bool x)
  z := false
  hz := fun w => by simp [zeroValue, typeInfo]; kernel_rfl
  hR := fun b => rfl
  inv := fun v y h => by
    unfold rdB at h
    split at h
    · cases h; exact ⟨_, rfl, rfl⟩
    · cases h
  inj := fun a b h => by simpa using h
/-- A map that tells of each of some numbers that it is there. -/
def MapS (w : World) (gm c : Nat) (K : List Int) : Prop := ∃ D : DataW Unit, w.ownsMap Try.prog EB.k EB.R gm c D ∧ Says EB D (fun x => if x ∈ K then some true else none) ∧ Maps.size D = K.length ∧ K.Nodup
theorem MapS.lt {w : World} {gm c : Nat} {K : List Int} (h : MapS w gm c K) : gm < w.heap.size := by
  obtain ⟨D, ⟨es, clock, hb, r⟩, _⟩ := h
  exact (Array.getElem?_eq_some_iff.1 hb).1
theorem MapS.fr {w w' : World} {gm c : Nat} {K : List Int} {X : Nat → Prop} (h : MapS w gm c K) (hf : Fr w w' X) (hx : ¬ X gm) : MapS w' gm c K := by
  obtain ⟨D, ⟨es, clock, hb, r⟩, h2, h3⟩ := h
  exact ⟨D, ⟨es, clock, by rw [hf.block gm (Array.getElem?_eq_some_iff.1 hb).1 hx]; exact hb, r⟩, h2, h3⟩
theorem mapS_new (w : World) : MapS (w.alloc (.map #[] 0)) w.heap.size 0 [] :=
  ⟨.map [], World.ownsMap_made w _ _ _, (fun x _ => ⟨rfl, fun b zd h => by simp at h⟩), rfl, List.nodup_nil⟩
theorem MapS.len {w : World} {gm c : Nat} {K : List Int} (h : MapS w gm c K) (ty : TypeId) : (Builtin.len_ #[59] ty #[.map (some gm)]).run Try.prog w = .ok (.int .i64 (K.length : Int)) w := by
  obtain ⟨D, hown, _, hs, _⟩ := h
  have := hown.len EB.ht ty
  rw [hs] at this
  exact this
theorem MapS.look {w : World} {gm c : Nat} {K : List Int} (h : MapS w gm c K) {x : Int} (hx : In64 x) (hk : x ∈ K) : (Instr.lookup 59 (.map (some gm)) (.int .i64 x) false).run Try.prog w = .ok (.bool true) w := by
  obtain ⟨D, h1, h2, _⟩ := h
  have := MapF.look (E := EB) (w := w) (gm := gm) (n := c) (f := fun x => if x ∈ K then some true else none) ⟨D, h1, h2⟩ (x := x) hx
  rw [if_pos hk] at this
  exact this
theorem MapS.put {w : World} {gm c : Nat} {K : List Int} (h : MapS w gm c K) (hc : c < maxLen) {x : Int} (hx : In64 x) : ∃ w', (Instr.mapUpdate 59 (.map (some gm)) (.int .i64 x) (.bool true)).run Try.prog w = .ok () w' ∧ MapS w' gm (c + 1) (if x ∈ K then K else K ++ [x]) ∧ Fr w w' (fun k => k = gm) := by
  obtain ⟨D, hown, h2, hs, hnd⟩ := h
  obtain ⟨w', hrun, r1, r2⟩ := hown.update EB.K EB.ht hc (EB.hkey x hx) (EB.hR true)
  have hM := (hown.tidy EB.K).isMap
  refine ⟨w', hrun, ⟨_, r1, fun y hy => ?_, ?_, ?_⟩, (Fr.grown r2).mono (fun q _ h => (Option.some.inj h).symm)⟩
  · by_cases hyx : y = x
    · subst hyx
      have hin : y ∈ (if y ∈ K then K else K ++ [y]) := by split <;> simp_all
      dsimp only
      rw [if_pos hin]
      refine ⟨by rw [Maps.has_put_same hM (EB.kkey y)]; rfl, fun b' zd hb => ?_⟩
      cases hb
      rw [Maps.atKey_put_same hM (EB.kkey y)]
    · have hne : EB.kl y ≠ EB.kl x := fun h => hyx (EB.kinj _ _ h)
      have hiff : (y ∈ (if x ∈ K then K else K ++ [x])) ↔ y ∈ K := by
        split
        · exact Iff.rfl
        · simp [hyx]
      have he : (if y ∈ (if x ∈ K then K else K ++ [x]) then some true else none) = (if y ∈ K then some true else none : Option Bool) := by
        by_cases h : y ∈ K
        · rw [if_pos (hiff.2 h), if_pos h]
        · rw [if_neg (fun h' => h (hiff.1 h')), if_neg h]
      dsimp only
      rw [he]
      refine ⟨by rw [Maps.has_put_other hne]; exact (h2 y hy).1, fun b' zd hb => ?_⟩
      rw [Maps.atKey_put_other hne]
      exact (h2 y hy).2 b' zd hb
  · rw [Maps.size_put (hown.tidy EB.K), (h2 x hx).1, hs]
    dsimp only
    by_cases h : x ∈ K
    · simp [h]
    · simp [h]
  · split
    · exact hnd
    · rename_i h
      rw [List.nodup_append]
      exact ⟨hnd, by simp, fun a ha b hb e => by rw [List.mem_singleton] at hb; subst hb; subst e; exact h ha⟩
/-- Numbers that come in one after the other: those that are there then. -/
def uniq (L : List Int) : List Int := L.foldl (fun K x => if x ∈ K then K else K ++ [x]) []
theorem uniq_snoc (L : List Int) (x : Int) : uniq (L ++ [x]) = if x ∈ uniq L then uniq L else uniq L ++ [x] := by unfold uniq; rw [List.foldl_append]; rfl
theorem mem_uniq {x : Int} : ∀ {L : List Int}, x ∈ uniq L ↔ x ∈ L := by
  intro L
  suffices h : ∀ (L K : List Int), x ∈ L.foldl (fun K x => if x ∈ K then K else K ++ [x]) K ↔ x ∈ L ∨ x ∈ K by
    unfold uniq; rw [h]; simp
  intro L
  induction L with
  | nil => intro K; simp
  | cons a L ih =>
    intro K
    rw [List.foldl_cons, ih, List.mem_cons]
    by_cases h : a ∈ K
    · rw [if_pos h]
      constructor
      · rintro (h1 | h1)
        · exact .inl (.inr h1)
        · exact .inr h1
      · rintro ((h1 | h1) | h1)
        · subst h1; exact .inr h
        · exact .inl h1
        · exact .inr h1
    · rw [if_neg h, List.mem_append, List.mem_singleton]
      constructor
      · rintro (h1 | h1 | h1)
        · exact .inl (.inr h1)
        · exact .inr h1
        · exact .inl (.inl h1)
      · rintro ((h1 | h1) | h1)
        · exact .inr (.inr h1)
        · exact .inl h1
        · exact .inr (.inl h1)
theorem rising_nodup {L : List Int} (h : L.Pairwise (· < ·)) : L.Nodup := h.imp (fun h => by omega)
/-- Lists without repeats that have the same members are of one length. -/
theorem same_len {A B : List Int} (ha : A.Nodup) (hb : B.Nodup) (h : ∀ x, x ∈ A ↔ x ∈ B) : A.length = B.length :=
  ((List.perm_ext_iff_of_nodup ha hb).2 h).length_eq
theorem ova_all {L : List Itm} {A : List Int} {q : Per} (h : OvA L q A) (hI : Ids L) (hq : ∀ p ∈ L, p.lo < q.hi ∧ q.lo < p.hi) : A.length = L.length := by
  have h1 : (L.map Itm.id).Nodup := List.pairwise_map.2 hI
  rw [same_len (rising_nodup h.1) h1 (fun x => ?_), List.length_map]
  rw [h.2 x, List.mem_map]
  constructor
  · rintro ⟨p, hp, e, _⟩; exact ⟨p, hp, e⟩
  · rintro ⟨p, hp, e⟩; exact ⟨p, hp, e, hq p hp⟩
theorem ova_two {L : List Itm} {A B C : List Int} {lo cut hi : Int} (h1 : lo < cut) (h2 : cut < hi) (hR : ∀ p ∈ L, p.lo < p.hi) (ha : OvA L ⟨lo, cut⟩ A) (hb : OvA L ⟨cut, hi⟩ B) (hc : OvA L ⟨lo, hi⟩ C) (x : Int) : x ∈ A ++ B ↔ x ∈ C := by
  rw [List.mem_append, ha.2, hb.2, hc.2]
  simp only []
  constructor
  · rintro (⟨p, hp, e, h3, h4⟩ | ⟨p, hp, e, h3, h4⟩)
    · exact ⟨p, hp, e, by omega, by omega⟩
    · exact ⟨p, hp, e, by omega, by omega⟩
  · rintro ⟨p, hp, e, h3, h4⟩
    have := hR p hp
    by_cases h : p.lo < cut
    · exact .inl ⟨p, hp, e, h, h4⟩
    · exact .inr ⟨p, hp, e, h3, by omega⟩
theorem its_ids (s : Int) (L : List Per) (j : Nat) : Ids (its s L j) := by
  induction j with
  | zero => exact List.Pairwise.nil
  | succ j ih =>
    cases hp : L[j]? with
    | none =>
      have : its s L (j + 1) = its s L j := by unfold its; rw [List.range_succ, List.filterMap_append]; simp [hp]
      rw [this]; exact ih
    | some p =>
      rw [its_succ s hp]
      unfold Ids
      rw [List.pairwise_append]
      refine ⟨ih, by split <;> simp, fun a ha b hb => ?_⟩
      split at hb
      · rw [List.mem_singleton] at hb
        subst hb
        obtain ⟨i, hi, e, _⟩ := its_mem ha
        rw [e]
        simp only []
        omega
      · cases hb
end Go.Proofs.Ytanfbfmpppfbhaa
