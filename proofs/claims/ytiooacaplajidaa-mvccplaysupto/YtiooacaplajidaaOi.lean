/- What the manager and the document's have in common, plainly. -/
import Derived.Test.YtiooacaplajidaaOh
namespace Go.Proofs.Ytiooacaplajidaa
open Go.RowKit Go.Maps
set_option maxRecDepth 100000
set_option linter.unusedVariables false
set_option linter.unusedSimpArgs false

/-- The two say the same. -/
structure PI (s : St) (m : Dm) : Prop where
  now : m.now = s.now
  last : m.last = s.last
  begun : m.begun = s.begun
  so : m.A.Pairwise (fun x y => x.id < y.id)
  a1 : ∀ x ∈ m.A, ∃ y, s.act x.id = some y ∧ y.snap = x.st ∧ ∀ k : ByteArray, k.size ≤ maxLen → (y.ks k = some () ↔ k ∈ x.K)
  a2 : ∀ t y, s.act t = some y → ∃ x ∈ m.A, x.id = t
  sz : ∀ x, (x ∈ m.A ∨ x ∈ m.H) → ∀ k ∈ x.K, k.size ≤ maxLen
  h1 : ∀ (k : ByteArray) v, k.size ≤ maxLen → s.st k = some v → ∃ d ∈ m.H, d.st = v ∧ k ∈ d.K
  h2 : ∀ d ∈ m.H, ∀ k ∈ d.K, ∀ t y, s.act t = some y → y.snap < d.st → ∃ v, s.st k = some v ∧ d.st ≤ v
  h3 : ∀ d ∈ m.H, d.st ≤ s.last
section
variable {s s' : St} {m : Dm}
theorem PI.found (h : PI s m) {t : Int} {i : Nat} {x : Rw} (hf : First m t i x) : ∃ y, s.act t = some y ∧ y.snap = x.st ∧ (∀ k : ByteArray, k.size ≤ maxLen → (y.ks k = some () ↔ k ∈ x.K)) := by
  obtain ⟨y, q1, q2, q3⟩ := h.a1 x (List.mem_of_getElem? hf.1)
  rw [hf.2.1] at q1
  exact ⟨y, q1, q2, q3⟩
theorem PI.none' (h : PI s m) {t : Int} (hn : ∀ x ∈ m.A, x.id ≠ t) : s.act t = none := by
  cases ha : s.act t with
  | none => rfl
  | some y => obtain ⟨x, hx, he⟩ := h.a2 t y ha; exact absurd he (hn x hx)
theorem first_of {m : Dm} {t : Int} {x : Rw} (hx : x ∈ m.A) (he : x.id = t) : ∃ i z, First m t i z := by
  obtain ⟨n, hn⟩ := List.getElem?_of_mem hx
  have key : ∀ (n : Nat) (x : Rw), m.A[n]? = some x → x.id = t → ∃ i z, First m t i z := by
    intro n
    induction n using Nat.strongRecOn with
    | _ n ih =>
      intro x hx he
      by_cases hp : ∃ (j : Nat) (y : Rw), j < n ∧ m.A[j]? = some y ∧ y.id = t
      · obtain ⟨j, y, q1, q2, q3⟩ := hp
        exact ih j q1 y q2 q3
      · exact ⟨n, x, hx, he, fun j y hj hy hyt => hp ⟨j, y, hj, hy, hyt⟩⟩
  exact key n x hn he
theorem PI.cases (h : PI s m) (t : Int) : (s.act t = none ∧ ∀ x ∈ m.A, x.id ≠ t) ∨ ∃ i x y, First m t i x ∧ s.act t = some y ∧ y.snap = x.st ∧ ∀ k : ByteArray, k.size ≤ maxLen → (y.ks k = some () ↔ k ∈ x.K) := by
  by_cases hp : ∃ x ∈ m.A, x.id = t
  · obtain ⟨x, hx, he⟩ := hp
    obtain ⟨i, z, hz⟩ := first_of hx he
    obtain ⟨y, q⟩ := h.found hz
    exact .inr ⟨i, z, y, hz, q⟩
  · have hn : ∀ x ∈ m.A, x.id ≠ t := fun x hx he => hp ⟨x, hx, he⟩
    exact .inl ⟨h.none' hn, hn⟩
theorem PI.empty (h : PI s m) {t : Int} {i : Nat} {x : Rw} {y : Tx} (hf : First m t i x) (hk : ∀ k : ByteArray, k.size ≤ maxLen → (y.ks k = some () ↔ k ∈ x.K)) : Empty y ↔ x.K = [] := by
  constructor
  · intro he
    cases hK : x.K with
    | nil => rfl
    | cons k K =>
      have hz := h.sz x (.inl (List.mem_of_getElem? hf.1)) k (by rw [hK]; simp)
      have := (hk k hz).2 (by rw [hK]; simp)
      rw [he k hz] at this
      cases this
  · intro he k hz
    cases hq : y.ks k with
    | none => rfl
    | some u => have := (hk k hz).1 hq; rw [he] at this; cases this
theorem PI.hits (h : PI s m) (hi : Inv s) {t : Int} {i : Nat} {x : Rw} {y : Tx} (hf : First m t i x) (hy : s.act t = some y) (hs : y.snap = x.st) (hk : ∀ k : ByteArray, k.size ≤ maxLen → (y.ks k = some () ↔ k ∈ x.K)) : Crosses s y ↔ Hits m x := by
  constructor
  · rintro ⟨k, hz, hks, hlt⟩
    cases hst : s.st k with
    | none =>
      rw [hst] at hlt
      have h1 := (hi.ac t y hy).2.2.1
      have hlt : y.snap < 0 := hlt
      omega
    | some v =>
      rw [hst] at hlt
      have hlt : y.snap < v := hlt
      obtain ⟨d, hd, he, hkd⟩ := h.h1 k v hz hst
      exact ⟨d, hd, by omega, k, hkd, (hk k hz).1 hks⟩
  · rintro ⟨d, hd, hlt, k, hkd, hkx⟩
    obtain ⟨v, q1, q2⟩ := h.h2 d hd k hkd t y hy (by omega)
    have hz := h.sz x (.inl (List.mem_of_getElem? hf.1)) k hkx
    exact ⟨k, hz, (hk k hz).2 hkx, by rw [q1]; show y.snap < v; omega⟩
/-- The two checks answer the same. -/
theorem PI.chk (h : PI s m) (hi : Inv s) {t a b : Int} (hc : ChkD m t a b) : chk s t = (a, b) := by
  have hnx : nextP s = stampD m := by unfold nextP stampD; rw [h.now, h.last]
  rcases hc with ⟨hn, rfl, rfl⟩ | ⟨i, x, hf, hc⟩
  · unfold Ytiooacaplajidaa.chk
    rw [h.none' hn]
  · obtain ⟨y, q1, q2, q3⟩ := h.found hf
    have he := h.empty hf q3
    have hh := h.hits hi hf q1 q2 q3
    unfold Ytiooacaplajidaa.chk
    rw [q1]
    simp only
    rcases hc with ⟨hk, rfl, rfl⟩ | ⟨hk, hh2, rfl, rfl⟩ | ⟨hk, hh2, hc⟩
    · rw [if_pos (he.2 hk), q2]
    · rw [if_neg (fun q => hk (he.1 q)), if_pos (hh.2 hh2)]
    · rw [if_neg (fun q => hk (he.1 q)), if_neg (fun q => hh2 (hh.1 q)), hnx]
      rcases hc with ⟨q, rfl, rfl⟩ | ⟨q, rfl, rfl⟩
      · rw [if_pos q]
      · rw [if_neg (by omega)]
theorem PI.tick (h : PI s m) (n : Int) : PI { s with now := n } { m with now := n } := ⟨rfl, h.last, h.begun, h.so, h.a1, h.a2, h.sz, h.h1, h.h2, h.h3⟩
theorem PI.begin (h : PI s m) (hi : Inv s) (kb pb : Nat) (a : Option Addr) (c : Nat) : PI (begS s (s.begun + 1) kb pb) { m with begun := m.begun + 1, aa := a, ac := c, A := m.A ++ [newR m] } := by
  have hno : ∀ x ∈ m.A, x.id ≤ s.begun := fun x hx => by
    obtain ⟨y, q1, _⟩ := h.a1 x hx
    exact (hi.ac _ _ q1).2.1
  refine ⟨h.now, h.last, by show m.begun + 1 = s.begun + 1; rw [h.begun], ?_, ?_, ?_, ?_, h.h1, ?_, h.h3⟩
  · show (m.A ++ [newR m]).Pairwise _
    rw [List.pairwise_append]
    refine ⟨h.so, List.pairwise_singleton _ _, fun x hx y hy => ?_⟩
    have : y = newR m := by simpa using hy
    subst this
    have := hno x hx
    show x.id < m.begun + 1
    rw [h.begun]
    omega
  · intro x hx
    rcases List.mem_append.1 hx with hx | hx
    · obtain ⟨y, q1, q2, q3⟩ := h.a1 x hx
      refine ⟨y, ?_, q2, q3⟩
      show (if x.id = s.begun + 1 then _ else s.act x.id) = some y
      rw [if_neg (by have := hno x hx; omega)]
      exact q1
    · have : x = newR m := by simpa using hx
      subst this
      refine ⟨⟨s.last, pb, kb, fun _ => none, 0⟩, ?_, h.last.symm, fun k _ => by simp [newR]⟩
      show (if m.begun + 1 = s.begun + 1 then _ else _) = _
      rw [if_pos (by rw [h.begun])]
  · intro t y hy
    have hy : (if t = s.begun + 1 then some ⟨s.last, pb, kb, fun _ => none, 0⟩ else s.act t) = some y := hy
    split at hy
    · rename_i he
      exact ⟨newR m, by simp, by show m.begun + 1 = t; rw [h.begun, he]⟩
    · obtain ⟨x, hx, he⟩ := h.a2 t y hy
      exact ⟨x, by simp [hx], he⟩
  · intro x hx k hk
    rcases hx with hx | hx
    · rcases List.mem_append.1 hx with hx | hx
      · exact h.sz x (.inl hx) k hk
      · have : x = newR m := by simpa using hx
        subst this
        cases hk
    · exact h.sz x (.inr hx) k hk
  · intro d hd k hk t y hy hlt
    have hy : (if t = s.begun + 1 then some ⟨s.last, pb, kb, fun _ => none, 0⟩ else s.act t) = some y := hy
    split at hy
    · cases hy
      have := h.h3 d hd
      have hlt : s.last < d.st := hlt
      omega
    · exact h.h2 d hd k hk t y hy hlt
theorem PI.ended {t : Int} {i : Nat} {x : Rw} (h : PI s m) (hf : First m t i x) (hE : Ended s t s') (a : Option Addr) (c : Nat) : PI s' { m with aa := a, ac := c, A := erased m i } := by
  have hact : ∀ u y, s'.act u = some y → s.act u = some y ∧ u ≠ t := fun u y hy => by
    rw [hE.act] at hy
    refine ⟨act_set hy, fun he => ?_⟩
    unfold setT at hy
    simp only at hy
    rw [if_pos he] at hy
    cases hy
  have hid : ∀ y ∈ erased m i, y ∈ m.A ∧ y.id ≠ t := by
    intro y hy
    have hsp : m.A = m.A.take i ++ x :: m.A.drop (i + 1) := by
      obtain ⟨hl, hx⟩ := List.getElem?_eq_some_iff.1 hf.1
      rw [← hx, ← List.drop_eq_getElem_cons hl, List.take_append_drop]
    have hso := h.so
    rw [hsp, List.pairwise_append] at hso
    obtain ⟨_, h2, h3⟩ := hso
    rw [List.pairwise_cons] at h2
    rcases List.mem_append.1 hy with hy | hy
    · refine ⟨List.mem_of_mem_take hy, fun he => ?_⟩
      have := h3 y hy x (by simp)
      rw [hf.2.1] at this
      omega
    · refine ⟨List.mem_of_mem_drop hy, fun he => ?_⟩
      have := h2.1 y hy
      rw [hf.2.1] at this
      omega
  have hsub : (erased m i).Sublist m.A := by
    unfold erased
    have e : m.A = m.A.take i ++ m.A.drop i := (List.take_append_drop i m.A).symm
    have q : (m.A.drop (i + 1)).Sublist (m.A.drop i) := List.drop_sublist_drop_left _ (Nat.le_succ i)
    exact (List.Sublist.append_left q _).trans (by rw [← e]; exact List.Sublist.refl _)
  refine ⟨h.now.trans hE.now.symm, h.last.trans hE.last.symm, h.begun.trans hE.begun.symm, h.so.sublist hsub, ?_, ?_, ?_, ?_, ?_, fun d hd => by rw [hE.last]; exact h.h3 d hd⟩
  · intro y hy
    obtain ⟨q1, q2⟩ := hid y hy
    obtain ⟨z, r1, r2, r3⟩ := h.a1 y q1
    refine ⟨z, ?_, r2, r3⟩
    rw [hE.act]
    show (if y.id = t then none else s.act y.id) = some z
    rw [if_neg q2]
    exact r1
  · intro u z hz
    obtain ⟨q1, q2⟩ := hact u z hz
    obtain ⟨y, hy, he⟩ := h.a2 u z q1
    refine ⟨y, ?_, he⟩
    show y ∈ m.A.take i ++ m.A.drop (i + 1)
    have hsp : m.A = m.A.take i ++ x :: m.A.drop (i + 1) := by
      obtain ⟨hl, hx⟩ := List.getElem?_eq_some_iff.1 hf.1
      rw [← hx, ← List.drop_eq_getElem_cons hl, List.take_append_drop]
    rw [hsp] at hy
    rcases List.mem_append.1 hy with hy | hy
    · exact List.mem_append.2 (.inl hy)
    · rcases List.mem_cons.1 hy with hy | hy
      · subst hy
        exact absurd (he.symm.trans hf.2.1) q2
      · exact List.mem_append.2 (.inr hy)
  · intro y hy k hk
    rcases hy with hy | hy
    · exact h.sz y (.inl (hid y hy).1) k hk
    · exact h.sz y (.inr hy) k hk
  · intro k v hz hst
    rcases hE.st k hz with q | ⟨q, _⟩
    · rw [q] at hst; exact h.h1 k v hz hst
    · rw [q] at hst; cases hst
  · intro d hd k hk u y hy hlt
    obtain ⟨q1, q2⟩ := hact u y hy
    obtain ⟨v, h1, h2⟩ := h.h2 d hd k hk u y q1 hlt
    rcases hE.st k (h.sz d (.inr hd) k hk) with h3 | ⟨_, v', h4, _, h5⟩
    · exact ⟨v, by rw [h3]; exact h1, h2⟩
    · rw [h1] at h4
      cases h4
      have := h5 u y hy
      omega
theorem PI.keep {t v : Int} {i : Nat} {x : Rw} {y : Tx} {dv : Value} (h : PI s m) (hi : Inv s) (hf : First m t i x) (hy : s.act t = some y) (hk : ∀ k : ByteArray, k.size ≤ maxLen → (y.ks k = some () ↔ k ∈ x.K)) (hv : s.last < v) (hE : Ended (keepS (lastS s v) t y v dv) t s') (a : Option Addr) (c : Nat) (ha : Option Addr) (hc : Nat) : PI s' { m with last := v, aa := a, ac := c, A := erased m i, ha := ha, hc := hc, H := m.H ++ [⟨t, v, x.ka, x.kn, x.kc, x.K⟩] } := by
  have hmid : PI (keepS (lastS s v) t y v dv) { m with last := v, ha := ha, hc := hc, H := m.H ++ [⟨t, v, x.ka, x.kn, x.kc, x.K⟩] } := by
    have hm2 : ∀ d ∈ m.H ++ [(⟨t, v, x.ka, x.kn, x.kc, x.K⟩ : Rw)], d ∈ m.H ∨ d = ⟨t, v, x.ka, x.kn, x.kc, x.K⟩ := fun d hd => by
      rcases List.mem_append.1 hd with hd | hd
      · exact .inl hd
      · exact .inr (by simpa using hd)
    refine ⟨h.now, rfl, h.begun, h.so, h.a1, h.a2, ?_, ?_, ?_, ?_⟩
    · intro z hz k hkz
      rcases hz with hz | hz
      · exact h.sz z (.inl hz) k hkz
      · rcases hm2 z hz with hz | rfl
        · exact h.sz z (.inr hz) k hkz
        · exact h.sz x (.inl (List.mem_of_getElem? hf.1)) k hkz
    · intro k u hz hst
      have hst : keepF s.st y.ks v k = some u := hst
      unfold keepF at hst
      split at hst
      · rename_i hks
        cases hst
        exact ⟨_, List.mem_append.2 (.inr (List.mem_singleton.2 rfl)), rfl, (hk k hz).1 hks⟩
      · obtain ⟨d, hd, q⟩ := h.h1 k u hz hst
        exact ⟨d, List.mem_append.2 (.inl hd), q⟩
    · intro d hd k hkd u z hz hlt
      show ∃ v', keepF s.st y.ks v k = some v' ∧ d.st ≤ v'
      unfold keepF
      by_cases hks : y.ks k = some ()
      · rw [if_pos hks]
        refine ⟨v, rfl, ?_⟩
        rcases hm2 d hd with hd | rfl
        · have := h.h3 d hd; omega
        · exact Int.le_refl _
      · rw [if_neg hks]
        rcases hm2 d hd with hd | rfl
        · exact h.h2 d hd k hkd u z hz hlt
        · exact absurd ((hk k (h.sz x (.inl (List.mem_of_getElem? hf.1)) k hkd)).2 hkd) hks
    · intro d hd
      show d.st ≤ v
      rcases hm2 d hd with hd | rfl
      · have := h.h3 d hd; omega
      · exact Int.le_refl _
  exact hmid.ended hf hE a c
theorem PI.write {t : Int} {i : Nat} {x : Rw} {y : Tx} (h : PI s m) (hf : First m t i x) (hy : s.act t = some y) (hs : y.snap = x.st) (hk : ∀ k : ByteArray, k.size ≤ maxLen → (y.ks k = some () ↔ k ∈ x.K)) (K2 : List ByteArray) (hz2 : ∀ k ∈ K2, k.size ≤ maxLen) (kn : Nat) (a : Option Addr) (c : Nat) (k1 : Option Addr) (k2 k3 : Nat) : PI (setT s t (some { y with ks := addK y.ks K2, kn := kn })) { m with aa := a, ac := c, A := m.A.set i ⟨x.id, x.st, k1, k2, k3, x.K ++ K2⟩ } := by
  have hil : i < m.A.length := (List.getElem?_eq_some_iff.1 hf.1).1
  have hse : ∀ u z, (setT s t (some { y with ks := addK y.ks K2, kn := kn })).act u = some z → (u = t ∧ z = { y with ks := addK y.ks K2, kn := kn }) ∨ (u ≠ t ∧ s.act u = some z) := fun u z hz => by
    have hz : (if u = t then some { y with ks := addK y.ks K2, kn := kn } else s.act u) = some z := hz
    split at hz
    · rename_i he; cases hz; exact .inl ⟨he, rfl⟩
    · rename_i he; exact .inr ⟨he, hz⟩
  have hids : (m.A.set i ⟨x.id, x.st, k1, k2, k3, x.K ++ K2⟩).map Rw.id = m.A.map Rw.id := by
    rw [List.map_set]
    apply List.ext_getElem?
    intro n
    by_cases hn : i = n
    · subst hn
      rw [List.getElem?_set_self (by simpa using hil), List.getElem?_map, hf.1]
      rfl
    · rw [List.getElem?_set_ne hn]
  refine ⟨h.now, h.last, h.begun, ?_, ?_, ?_, ?_, h.h1, ?_, h.h3⟩
  · have q : (m.A.map Rw.id).Pairwise (· < ·) := List.pairwise_map.2 h.so
    rw [← hids] at q
    exact List.pairwise_map.1 q
  · intro z hz
    obtain ⟨n, hn⟩ := List.getElem?_of_mem hz
    have hn : (m.A.set i ⟨x.id, x.st, k1, k2, k3, x.K ++ K2⟩)[n]? = some z := hn
    by_cases hni : i = n
    · subst hni
      rw [List.getElem?_set_self hil] at hn
      cases hn
      refine ⟨{ y with ks := addK y.ks K2, kn := kn }, ?_, hs, fun k hz => ?_⟩
      · show (if x.id = t then _ else s.act x.id) = _
        rw [if_pos hf.2.1]
      · show addK y.ks K2 k = some () ↔ k ∈ x.K ++ K2
        rw [addK_iff, List.mem_append, hk k hz]
    · rw [List.getElem?_set_ne hni] at hn
      have he : z.id ≠ t := by
        intro he
        obtain ⟨hn1, hn2⟩ := List.getElem?_eq_some_iff.1 hn
        obtain ⟨hi1, hi2⟩ := List.getElem?_eq_some_iff.1 hf.1
        rcases Nat.lt_or_gt_of_ne hni with q | q
        · have := List.pairwise_iff_getElem.1 h.so i n hi1 hn1 q
          rw [hi2, hn2, he, hf.2.1] at this
          omega
        · exact hf.2.2 n z q hn he
      obtain ⟨w, q1, q2, q3⟩ := h.a1 z (List.mem_of_getElem? hn)
      refine ⟨w, ?_, q2, q3⟩
      show (if z.id = t then _ else s.act z.id) = some w
      rw [if_neg he]
      exact q1
  · intro u z hz
    rcases hse u z hz with ⟨rfl, _⟩ | ⟨_, q⟩
    · exact ⟨⟨x.id, x.st, k1, k2, k3, x.K ++ K2⟩, List.mem_set hil _, hf.2.1⟩
    · obtain ⟨w, hw, he⟩ := h.a2 u z q
      have : u ∈ (m.A.set i ⟨x.id, x.st, k1, k2, k3, x.K ++ K2⟩).map Rw.id := by rw [hids]; exact List.mem_map.2 ⟨w, hw, he⟩
      obtain ⟨w', hw', he'⟩ := List.mem_map.1 this
      exact ⟨w', hw', he'⟩
  · intro z hz k hkz
    rcases hz with hz | hz
    · rcases List.mem_or_eq_of_mem_set hz with hz | rfl
      · exact h.sz z (.inl hz) k hkz
      · rcases List.mem_append.1 hkz with q | q
        · exact h.sz x (.inl (List.mem_of_getElem? hf.1)) k q
        · exact hz2 k q
    · exact h.sz z (.inr hz) k hkz
  · intro d hd k hkd u z hz hlt
    rcases hse u z hz with ⟨rfl, rfl⟩ | ⟨_, q⟩
    · exact h.h2 d hd k hkd u y hy hlt
    · exact h.h2 d hd k hkd u z q hlt
end
end Go.Proofs.Ytiooacaplajidaa
