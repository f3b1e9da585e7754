/- MvccFirst's own lists in memory. -/
import Derived.Test.YtiooacaplajidaaNf
namespace Go.Proofs.Ytiooacaplajidaa
open Go.RowKit
set_option maxRecDepth 100000
set_option linter.unusedVariables false
set_option linter.unusedSimpArgs false

/-- What a block of the statement's own is for. -/
inductive FRole where
  | snap | keys | done | key (i : Nat)
/-- The cells of what is done, each with the slice of its keys. -/
def encO (L : List (Dd × Value)) : List Value := L.flatMap fun p => [.int .i64 0, .int .i64 p.1.id, p.2, .int .i64 p.1.n]
/-- The statement's lists, apart from the manager's blocks (X) and from one another. -/
structure FM (w : World) (base : Nat) (X : Nat → Prop) (fr : Nat → Option FRole) (v4 v5 v6 : Value) (sn : List Int) (ks : List (List ByteArray)) (kv : List Value) (dl : List (Dd × Value)) : Prop where
  s : w.ownsRow base 2 1 v4 sn.length (sn.map (Value.int .i64))
  k : w.ownsRow base 31 1 v5 ks.length kv
  kl : kv.length = ks.length
  ke : ∀ (i : Nat) K u, ks[i]? = some K → kv[i]? = some u → w.ownsRow base 9 1 u K.length (K.map Value.string)
  d : w.ownsRow base 33 4 v6 dl.length (encO dl)
  de : ∀ p ∈ dl, w.ownsRow base 9 1 p.2 p.1.K.length (p.1.K.map Value.string)
  rs : ∀ g, v4.ownBlock = some g → fr g = some .snap
  rk : ∀ g, v5.ownBlock = some g → fr g = some .keys
  rd : ∀ g, v6.ownBlock = some g → fr g = some .done
  re : ∀ (i : Nat) u g, kv[i]? = some u → u.ownBlock = some g → fr g = some (.key i)
  rp : ∀ p ∈ dl, ∀ g, p.2.ownBlock = some g → ∃ i : Nat, p.1.id = i ∧ fr g = some (.key i)
  lo : ∀ g r, fr g = some r → base ≤ g ∧ g < w.heap.size ∧ ¬ X g
section
variable {w w' : World} {base : Nat} {X : Nat → Prop} {fr : Nat → Option FRole} {v4 v5 v6 : Value} {sn : List Int} {ks : List (List ByteArray)} {kv : List Value} {dl : List (Dd × Value)}
/-- What touches none of its blocks leaves it; so does a manager that has grown by blocks that are none of these. -/
theorem FM.move {Z Y : Nat → Prop} (h : FM w base X fr v4 v5 v6 sn ks kv dl) (hf : Fr w w' Z) (hz : ∀ g r, fr g = some r → ¬ Z g) (hy : ∀ g r, fr g = some r → ¬ Y g) : FM w' base Y fr v4 v5 v6 sn ks kv dl :=
  ⟨ownsRow_fr h.s hf (fun q hq => hz _ _ (h.rs q hq)), ownsRow_fr h.k hf (fun q hq => hz _ _ (h.rk q hq)), h.kl,
   fun i K u hK hu => ownsRow_fr (h.ke i K u hK hu) hf (fun q hq => hz _ _ (h.re i u q hu hq)), ownsRow_fr h.d hf (fun q hq => hz _ _ (h.rd q hq)),
   fun p hp => ownsRow_fr (h.de p hp) hf (fun q hq => by obtain ⟨i, _, h2⟩ := h.rp p hp q hq; exact hz _ _ h2), h.rs, h.rk, h.rd, h.re, h.rp,
   fun g r hg => ⟨(h.lo g r hg).1, Nat.lt_of_lt_of_le (h.lo g r hg).2.1 hf.size, hy g r hg⟩⟩
/-- A call of the manager's: it changes blocks of X, and its new blocks are new. -/
theorem FM.call (h : FM w base X fr v4 v5 v6 sn ks kv dl) (hf : Fr w w' X) : FM w' base (fun k => X k ∨ (w.heap.size ≤ k)) fr v4 v5 v6 sn ks kv dl :=
  h.move hf (fun g r hg => (h.lo g r hg).2.2) (fun g r hg hx => by have h1 := h.lo g r hg; rcases hx with hx | hx; exact h1.2.2 hx; omega)
theorem FM.same (h : FM w base X fr v4 v5 v6 sn ks kv dl) (hf : Fr w w' (fun _ => False)) : FM w' base X fr v4 v5 v6 sn ks kv dl :=
  h.move hf (fun _ _ _ h => h) (fun g r hg => (h.lo g r hg).2.2)
/-- snap = append(snap, x). -/
theorem FM.snap {v' : Value} (x : Int) (h : FM w base X fr v4 v5 v6 sn ks kv dl) (hX : ∀ k, X k → k < w.heap.size) (q1 : w'.ownsRow base 2 1 v' (sn.length + 1) (sn.map (Value.int .i64) ++ [.int .i64 x])) (hf : Fr w w' (fun k => v4.ownBlock = some k)) (q3 : v'.ownBlock = v4.ownBlock ∨ v'.ownBlock = some w.heap.size) (hsz : v'.ownBlock = some w.heap.size → w.heap.size < w'.heap.size ∧ base ≤ w.heap.size) :
    ∃ fr', FM w' base X fr' v' v5 v6 (sn ++ [x]) ks kv dl := by
  have ns : ∀ g r, fr g = some r → r ≠ .snap → ¬ (v4.ownBlock = some g) := fun g r hg hr he => by rw [h.rs g he] at hg; exact hr (Option.some.inj hg).symm
  have hs' : w'.ownsRow base 2 1 v' (sn ++ [x]).length ((sn ++ [x]).map (Value.int .i64)) := by rw [List.length_append, List.map_append]; exact q1
  have hk := ownsRow_fr h.k hf (fun q hq => ns _ _ (h.rk q hq) (by simp))
  have hke := fun i K u hK hu => ownsRow_fr (h.ke i K u hK hu) hf (fun q hq => ns _ _ (h.re i u q hu hq) (by simp))
  have hd := ownsRow_fr h.d hf (fun q hq => ns _ _ (h.rd q hq) (by simp))
  have hde := fun p hp => ownsRow_fr (h.de p hp) hf (fun q hq => by obtain ⟨i, _, h2⟩ := h.rp p hp q hq; exact ns _ _ h2 (by simp))
  rcases q3 with q3 | q3
  · exact ⟨fr, hs', hk, h.kl, hke, hd, hde, fun g hg => h.rs g (q3 ▸ hg), h.rk, h.rd, h.re, h.rp, fun g r hg => ⟨(h.lo g r hg).1, Nat.lt_of_lt_of_le (h.lo g r hg).2.1 hf.size, (h.lo g r hg).2.2⟩⟩
  · have hlt : ∀ g r, fr g = some r → ¬ (g = w.heap.size) := fun g r hg he => by have := (h.lo g r hg).2.1; omega
    have up : ∀ g r, fr g = some r → (if g = w.heap.size then some FRole.snap else fr g) = some r := fun g r hg => by rw [if_neg (hlt g r hg)]; exact hg
    refine ⟨fun g => if g = w.heap.size then some .snap else fr g, hs', hk, h.kl, hke, hd, hde, fun g hg => ?_, fun g hg => up _ _ (h.rk g hg), fun g hg => up _ _ (h.rd g hg), fun i u g hu hg => up _ _ (h.re i u g hu hg), fun p hp g hg => ?_, fun g r hg => ?_⟩
    · rw [q3] at hg
      cases hg
      exact if_pos rfl
    · obtain ⟨i, h1, h2⟩ := h.rp p hp g hg
      exact ⟨i, h1, up _ _ h2⟩
    · have hg : (if g = w.heap.size then some FRole.snap else fr g) = some r := hg
      split at hg
      · rename_i he
        have := hsz q3
        exact ⟨by omega, by omega, fun hx => by have := hX g hx; omega⟩
      · exact ⟨(h.lo g r hg).1, Nat.lt_of_lt_of_le (h.lo g r hg).2.1 hf.size, (h.lo g r hg).2.2⟩
/-- keys = append(keys, nil). -/
theorem FM.keysN {v' : Value} (h : FM w base X fr v4 v5 v6 sn ks kv dl) (hX : ∀ k, X k → k < w.heap.size) (q1 : w'.ownsRow base 31 1 v' (ks.length + 1) (kv ++ [.slice none 0 0])) (hf : Fr w w' (fun k => v5.ownBlock = some k)) (q3 : v'.ownBlock = v5.ownBlock ∨ v'.ownBlock = some w.heap.size) (hsz : v'.ownBlock = some w.heap.size → w.heap.size < w'.heap.size ∧ base ≤ w.heap.size) :
    ∃ fr', FM w' base X fr' v4 v' v6 sn (ks ++ [[]]) (kv ++ [.slice none 0 0]) dl := by
  have ns : ∀ g r, fr g = some r → r ≠ .keys → ¬ (v5.ownBlock = some g) := fun g r hg hr he => by rw [h.rk g he] at hg; exact hr (Option.some.inj hg).symm
  have hk' : w'.ownsRow base 31 1 v' (ks ++ [[]]).length (kv ++ [.slice none 0 0]) := by rw [List.length_append]; exact q1
  have hs := ownsRow_fr h.s hf (fun q hq => ns _ _ (h.rs q hq) (by simp))
  have hkl : (kv ++ [Value.slice none 0 0]).length = (ks ++ [[]]).length := by rw [List.length_append, List.length_append, h.kl]; rfl
  have hold : ∀ (i : Nat) u, (kv ++ [Value.slice none 0 0])[i]? = some u → kv[i]? = some u ∨ (i = kv.length ∧ u = .slice none 0 0) := by
    intro i u hu
    rcases Nat.lt_or_ge i kv.length with hi | hi
    · rw [List.getElem?_append_left hi] at hu; exact .inl hu
    · rw [List.getElem?_append_right hi] at hu
      obtain ⟨j, hj⟩ : ∃ j, i - kv.length = j := ⟨_, rfl⟩
      rw [hj] at hu
      cases j with
      | zero => simp at hu; exact .inr ⟨by omega, hu.symm⟩
      | succ j => simp at hu
  have hke : ∀ (i : Nat) K u, (ks ++ [[]])[i]? = some K → (kv ++ [Value.slice none 0 0])[i]? = some u → w'.ownsRow base 9 1 u K.length (K.map Value.string) := by
    intro i K u hK hu
    rcases hold i u hu with h1 | ⟨h1, h2⟩
    · have hi := (List.getElem?_eq_some_iff.1 h1).1
      rw [List.getElem?_append_left (by rw [← h.kl]; exact hi)] at hK
      exact ownsRow_fr (h.ke i K u hK h1) hf (fun q hq => ns _ _ (h.re i u q h1 hq) (by simp))
    · rw [h1, h.kl, List.getElem?_append_right (Nat.le_refl _)] at hK
      simp at hK
      subst h2
      subst hK
      exact World.ownsRow_nil w' base 9 1
  have hd := ownsRow_fr h.d hf (fun q hq => ns _ _ (h.rd q hq) (by simp))
  have hde := fun p hp => ownsRow_fr (h.de p hp) hf (fun q hq => by obtain ⟨i, _, h2⟩ := h.rp p hp q hq; exact ns _ _ h2 (by simp))
  have hre : ∀ (i : Nat) u g, (kv ++ [Value.slice none 0 0])[i]? = some u → u.ownBlock = some g → fr g = some (.key i) := by
    intro i u g hu hg
    rcases hold i u hu with h1 | ⟨_, h2⟩
    · exact h.re i u g h1 hg
    · subst h2; cases hg
  rcases q3 with q3 | q3
  · exact ⟨fr, hs, hk', hkl, hke, hd, hde, h.rs, fun g hg => h.rk g (q3 ▸ hg), h.rd, hre, h.rp, fun g r hg => ⟨(h.lo g r hg).1, Nat.lt_of_lt_of_le (h.lo g r hg).2.1 hf.size, (h.lo g r hg).2.2⟩⟩
  · have hlt : ∀ g r, fr g = some r → ¬ (g = w.heap.size) := fun g r hg he => by have := (h.lo g r hg).2.1; omega
    have up : ∀ g r, fr g = some r → (if g = w.heap.size then some FRole.keys else fr g) = some r := fun g r hg => by rw [if_neg (hlt g r hg)]; exact hg
    refine ⟨fun g => if g = w.heap.size then some .keys else fr g, hs, hk', hkl, hke, hd, hde, fun g hg => up _ _ (h.rs g hg), fun g hg => ?_, fun g hg => up _ _ (h.rd g hg), fun i u g hu hg => up _ _ (hre i u g hu hg), fun p hp g hg => ?_, fun g r hg => ?_⟩
    · rw [q3] at hg
      cases hg
      exact if_pos rfl
    · obtain ⟨i, h1, h2⟩ := h.rp p hp g hg
      exact ⟨i, h1, up _ _ h2⟩
    · have hg : (if g = w.heap.size then some FRole.keys else fr g) = some r := hg
      split at hg
      · rename_i he
        have := hsz q3
        exact ⟨by omega, by omega, fun hx => by have := hX g hx; omega⟩
      · exact ⟨(h.lo g r hg).1, Nat.lt_of_lt_of_le (h.lo g r hg).2.1 hf.size, (h.lo g r hg).2.2⟩
/-- done = append(done, p). -/
theorem FM.doneN {v' : Value} (p0 : Dd × Value) (h : FM w base X fr v4 v5 v6 sn ks kv dl) (hX : ∀ k, X k → k < w.heap.size) (hp0 : w.ownsRow base 9 1 p0.2 p0.1.K.length (p0.1.K.map Value.string)) (hr0 : ∀ g, p0.2.ownBlock = some g → ∃ i : Nat, p0.1.id = i ∧ fr g = some (.key i))
    (q1 : w'.ownsRow base 33 4 v' (dl.length + 1) (encO dl ++ [.int .i64 0, .int .i64 p0.1.id, p0.2, .int .i64 p0.1.n])) (hf : Fr w w' (fun k => v6.ownBlock = some k)) (q3 : v'.ownBlock = v6.ownBlock ∨ v'.ownBlock = some w.heap.size) (hsz : v'.ownBlock = some w.heap.size → w.heap.size < w'.heap.size ∧ base ≤ w.heap.size) :
    ∃ fr', FM w' base X fr' v4 v5 v' sn ks kv (dl ++ [p0]) := by
  have ns : ∀ g r, fr g = some r → r ≠ .done → ¬ (v6.ownBlock = some g) := fun g r hg hr he => by rw [h.rd g he] at hg; exact hr (Option.some.inj hg).symm
  have hd' : w'.ownsRow base 33 4 v' (dl ++ [p0]).length (encO (dl ++ [p0])) := by
    rw [List.length_append, show encO (dl ++ [p0]) = encO dl ++ [.int .i64 0, .int .i64 p0.1.id, p0.2, .int .i64 p0.1.n] by simp [encO]]
    exact q1
  have hs := ownsRow_fr h.s hf (fun q hq => ns _ _ (h.rs q hq) (by simp))
  have hk := ownsRow_fr h.k hf (fun q hq => ns _ _ (h.rk q hq) (by simp))
  have hke := fun i K u hK hu => ownsRow_fr (h.ke i K u hK hu) hf (fun q hq => ns _ _ (h.re i u q hu hq) (by simp))
  have hrp : ∀ p ∈ dl ++ [p0], ∀ g, p.2.ownBlock = some g → ∃ i : Nat, p.1.id = i ∧ fr g = some (.key i) := by
    intro p hp g hg
    rcases List.mem_append.1 hp with hp | hp
    · exact h.rp p hp g hg
    · rw [List.mem_singleton] at hp; subst hp; exact hr0 g hg
  have hde : ∀ p ∈ dl ++ [p0], w'.ownsRow base 9 1 p.2 p.1.K.length (p.1.K.map Value.string) := by
    intro p hp
    have h0 : w.ownsRow base 9 1 p.2 p.1.K.length (p.1.K.map Value.string) := by
      rcases List.mem_append.1 hp with hp | hp
      · exact h.de p hp
      · rw [List.mem_singleton] at hp; subst hp; exact hp0
    exact ownsRow_fr h0 hf (fun q hq => by obtain ⟨i, _, h2⟩ := hrp p hp q hq; exact ns _ _ h2 (by simp))
  rcases q3 with q3 | q3
  · exact ⟨fr, hs, hk, h.kl, hke, hd', hde, h.rs, h.rk, fun g hg => h.rd g (q3 ▸ hg), h.re, hrp, fun g r hg => ⟨(h.lo g r hg).1, Nat.lt_of_lt_of_le (h.lo g r hg).2.1 hf.size, (h.lo g r hg).2.2⟩⟩
  · have hlt : ∀ g r, fr g = some r → ¬ (g = w.heap.size) := fun g r hg he => by have := (h.lo g r hg).2.1; omega
    have up : ∀ g r, fr g = some r → (if g = w.heap.size then some FRole.done else fr g) = some r := fun g r hg => by rw [if_neg (hlt g r hg)]; exact hg
    refine ⟨fun g => if g = w.heap.size then some .done else fr g, hs, hk, h.kl, hke, hd', hde, fun g hg => up _ _ (h.rs g hg), fun g hg => up _ _ (h.rk g hg), fun g hg => ?_, fun i u g hu hg => up _ _ (h.re i u g hu hg), fun p hp g hg => ?_, fun g r hg => ?_⟩
    · rw [q3] at hg
      cases hg
      exact if_pos rfl
    · obtain ⟨i, h1, h2⟩ := hrp p hp g hg
      exact ⟨i, h1, up _ _ h2⟩
    · have hg : (if g = w.heap.size then some FRole.done else fr g) = some r := hg
      split at hg
      · rename_i he
        have := hsz q3
        exact ⟨by omega, by omega, fun hx => by have := hX g hx; omega⟩
      · exact ⟨(h.lo g r hg).1, Nat.lt_of_lt_of_le (h.lo g r hg).2.1 hf.size, (h.lo g r hg).2.2⟩
end
end Go.Proofs.Ytiooacaplajidaa
