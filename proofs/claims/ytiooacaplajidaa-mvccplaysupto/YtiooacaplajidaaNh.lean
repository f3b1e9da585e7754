/- MvccFirst: the keys of one grow. -/
import Derived.Test.YtiooacaplajidaaNg
namespace Go.Proofs.Ytiooacaplajidaa
open Go.RowKit
set_option maxRecDepth 100000
set_option linter.unusedVariables false
set_option linter.unusedSimpArgs false

/-- An element of a row of the call's own is set. -/
theorem row_set {w : World} {base : Nat} {e : TypeId} {n cap g i : Nat} {xs : List Value} (u : Value) (h : w.ownsRow base e 1 (.slice (some ⟨g, 0, none⟩) n cap) n xs) (hi : i < n) : (w.setCell ⟨g, i, none⟩ u).ownsRow base e 1 (.slice (some ⟨g, 0, none⟩) n cap) n (xs.set i u) := by
  obtain ⟨hl, ⟨h1, _⟩ | ⟨g', cap', cur, h1, hb, hg, hn, hc, hs, ht⟩⟩ := h
  · cases h1
  · cases h1
    refine ⟨by rw [List.length_set]; exact hl, .inr ⟨g, cap, cur.setIfInBounds i u, rfl, hb, heap_setCell_here w g i u cur e (0, 0) hg, hn, hc, by rw [Array.size_setIfInBounds]; exact hs, ?_⟩⟩
    rw [Array.toList_setIfInBounds, List.take_set, ht]
section
variable {w w1 : World} {base : Nat} {X : Nat → Prop} {fr : Nat → Option FRole} {v4 v6 : Value} {sn : List Int} {ks : List (List ByteArray)} {kv : List Value} {dl : List (Dd × Value)}
/-- keys[i] = append(keys[i], K2...). -/
theorem FM.key {g5 n5 c5 : Nat} {i : Nat} {K K2 : List ByteArray} {u u' : Value} (h : FM w base X fr v4 (.slice (some ⟨g5, 0, none⟩) n5 c5) v6 sn ks kv dl) (hn5 : n5 = ks.length) (hX : ∀ k, X k → k < w.heap.size) (hK : ks[i]? = some K) (hu : kv[i]? = some u) (hid : ∀ p ∈ dl, p.1.id ≠ (i : Int))
    (q1 : w1.ownsRow base 9 1 u' (K.length + K2.length) (K.map Value.string ++ K2.map Value.string)) (hf : Fr w w1 (fun k => u.ownBlock = some k)) (q3 : u'.ownBlock = u.ownBlock ∨ u'.ownBlock = some w.heap.size) (hsz : u'.ownBlock = some w.heap.size → w.heap.size < w1.heap.size ∧ base ≤ w.heap.size) :
    ∃ fr', FM (w1.setCell ⟨g5, i, none⟩ u') base X fr' v4 (.slice (some ⟨g5, 0, none⟩) n5 c5) v6 sn (ks.set i (K ++ K2)) (kv.set i u') dl := by
  subst hn5
  have hil := (List.getElem?_eq_some_iff.1 hK).1
  have hiv := (List.getElem?_eq_some_iff.1 hu).1
  have r5 : fr g5 = some .keys := h.rk g5 rfl
  have ns : ∀ g r, fr g = some r → r ≠ .key i → ¬ (u.ownBlock = some g) := fun g r hg hr he => by rw [h.re i u g hu he] at hg; exact hr (Option.some.inj hg).symm
  have n5 : ∀ g r, fr g = some r → r ≠ .keys → ¬ (g = g5) := fun g r hg hr he => by subst he; rw [r5] at hg; exact hr (Option.some.inj hg).symm
  have F2 := Fr.setCell w1 ⟨g5, i, none⟩ u'
  have two : ∀ {e : TypeId} {sz : Nat} {v : Value} {m : Nat} {xs : List Value}, w.ownsRow base e sz v m xs → (∀ q, v.ownBlock = some q → ∃ r, fr q = some r ∧ r ≠ .key i ∧ r ≠ .keys) → (w1.setCell ⟨g5, i, none⟩ u').ownsRow base e sz v m xs := by
    intro e sz v m xs ho hq
    exact ownsRow_fr (ownsRow_fr ho hf (fun q hh => by obtain ⟨r, h1, h2, _⟩ := hq q hh; exact ns q r h1 h2)) F2 (fun q hh => by obtain ⟨r, h1, _, h3⟩ := hq q hh; exact n5 q r h1 h3)
  have hs := two h.s (fun q hq => ⟨_, h.rs q hq, by simp, by simp⟩)
  have hd := two h.d (fun q hq => ⟨_, h.rd q hq, by simp, by simp⟩)
  have hde : ∀ p ∈ dl, (w1.setCell ⟨g5, i, none⟩ u').ownsRow base 9 1 p.2 p.1.K.length (p.1.K.map Value.string) := fun p hp => two (h.de p hp) (fun q hq => by
    obtain ⟨j, h1, h2⟩ := h.rp p hp q hq
    refine ⟨_, h2, fun he => ?_, by simp⟩
    injection he with he
    subst he
    exact hid p hp h1)
  have hk : (w1.setCell ⟨g5, i, none⟩ u').ownsRow base 31 1 (.slice (some ⟨g5, 0, none⟩) ks.length c5) ks.length (kv.set i u') := row_set u' (ownsRow_fr h.k hf (fun q hq => ns q _ (h.rk q hq) (by simp))) hil
  have hfz : (w1.setCell ⟨g5, i, none⟩ u').heap.size = w1.heap.size := by simp [World.setCell]
  have hlu : ∀ g, u'.ownBlock = some g → g ≠ g5 := by
    intro g hg he
    subst he
    rcases q3 with q3 | q3
    · rw [q3] at hg; exact ns _ _ r5 (by simp) hg
    · rw [q3] at hg; cases hg; have := (h.lo _ _ r5).2.1; omega
  have hke : ∀ (j : Nat) K' v, (ks.set i (K ++ K2))[j]? = some K' → (kv.set i u')[j]? = some v → (w1.setCell ⟨g5, i, none⟩ u').ownsRow base 9 1 v K'.length (K'.map Value.string) := by
    intro j K' v hK' hv
    by_cases hji : i = j
    · subst hji
      rw [List.getElem?_set_self hil] at hK'
      rw [List.getElem?_set_self hiv] at hv
      cases hK'
      cases hv
      rw [List.length_append, List.map_append]
      exact ownsRow_fr q1 F2 (fun q hq => hlu q hq)
    · rw [List.getElem?_set_ne hji] at hK' hv
      exact two (h.ke j K' v hK' hv) (fun q hq => ⟨_, h.re j v q hv hq, fun he => by injection he with he; exact hji he.symm, by simp⟩)
  rcases q3 with q3 | q3
  · refine ⟨fr, hs, by rw [List.length_set]; exact hk, by rw [List.length_set, List.length_set]; exact h.kl, hke, hd, hde, h.rs, h.rk, h.rd, fun j v g hv hg => ?_, h.rp, fun g r hg => ⟨(h.lo g r hg).1, by rw [hfz]; exact Nat.lt_of_lt_of_le (h.lo g r hg).2.1 hf.size, (h.lo g r hg).2.2⟩⟩
    by_cases hji : i = j
    · subst hji
      rw [List.getElem?_set_self hiv] at hv
      cases hv
      exact h.re i u g hu (q3 ▸ hg)
    · rw [List.getElem?_set_ne hji] at hv
      exact h.re j v g hv hg
  · have hlt : ∀ g r, fr g = some r → ¬ (g = w.heap.size) := fun g r hg he => by have := (h.lo g r hg).2.1; omega
    have up : ∀ g r, fr g = some r → (if g = w.heap.size then some (FRole.key i) else fr g) = some r := fun g r hg => by rw [if_neg (hlt g r hg)]; exact hg
    refine ⟨fun g => if g = w.heap.size then some (.key i) else fr g, hs, by rw [List.length_set]; exact hk, by rw [List.length_set, List.length_set]; exact h.kl, hke, hd, hde, fun g hg => up _ _ (h.rs g hg), fun g hg => up _ _ (h.rk g hg), fun g hg => up _ _ (h.rd g hg), fun j v g hv hg => ?_, fun p hp g hg => ?_, fun g r hg => ?_⟩
    · by_cases hji : i = j
      · subst hji
        rw [List.getElem?_set_self hiv] at hv
        cases hv
        rw [q3] at hg
        cases hg
        exact if_pos rfl
      · rw [List.getElem?_set_ne hji] at hv
        exact up _ _ (h.re j v g hv hg)
    · obtain ⟨j, h1, h2⟩ := h.rp p hp g hg
      exact ⟨j, h1, up _ _ h2⟩
    · have hg : (if g = w.heap.size then some (FRole.key i) else fr g) = some r := hg
      rw [hfz]
      split at hg
      · rename_i he
        have := hsz q3
        exact ⟨by omega, by omega, fun hx => by have := hX g hx; omega⟩
      · exact ⟨(h.lo g r hg).1, Nat.lt_of_lt_of_le (h.lo g r hg).2.1 hf.size, (h.lo g r hg).2.2⟩
end
/-- append of texts that lie anywhere, or nowhere. -/
theorem app_any {w : World} {base : Nat} {v : Value} {n : Nat} {xs : List Value} {P : Nat → Prop} (hown : w.ownsRow base 9 1 v n xs) (hbase : base ≤ w.heap.size) (ty : TypeId) (ka : Option Addr) (m c : Nat) (K : List ByteArray) (hm : K.length = m) (hK : StrsIn P w ka K) (hc : ka = none → c = 0) (hn : n + m ≤ 2199023255552) :
    ∃ v' w', (Builtin.append_ #[31, 31] ty #[v, .slice ka m c]).run Try.prog w = .ok v' w' ∧ w'.ownsRow base 9 1 v' (n + m) (xs ++ K.map Value.string) ∧ Fr w w' (fun k => v.ownBlock = some k) ∧ (v'.ownBlock = v.ownBlock ∨ v'.ownBlock = some w.heap.size) := by
  subst hm
  cases ka with
  | none =>
    have hnil : K = [] := by
      cases K with
      | nil => rfl
      | cons x K => obtain ⟨g, off, h1, _⟩ := hK 0 x rfl; cases h1
    subst hnil
    rw [hc rfl]
    obtain ⟨i, hi, hz, hs, hby⟩ := full9
    have hr := run_append_owned_none (P := Try.prog) w base 31 ty 9 i 1 Try.underlying31 hi v n xs hown
    exact ⟨v, w, hr, by simpa using hown, Fr.refl _ _, .inl rfl⟩
  | some a =>
    refine app_row Try.underlying31 full9 rfl (by omega) (by omega) hown hbase ty a K.length c (K.map Value.string) (by rw [List.length_map]; omega) ?_ ?_ hn
    · intro j u hu
      rw [List.getElem?_map] at hu
      cases hx : K[j]? with
      | none => rw [hx] at hu; cases hu
      | some x =>
        rw [hx] at hu
        cases hu
        obtain ⟨g', off', h1, _, h3, _⟩ := hK j x hx
        cases h1
        rw [Addr.add_mid]
        exact h3
    · intro u hu
      obtain ⟨x, _, rfl⟩ := List.mem_map.1 hu
      rfl
end Go.Proofs.Ytiooacaplajidaa
