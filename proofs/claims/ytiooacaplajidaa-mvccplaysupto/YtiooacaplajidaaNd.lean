/- Calls of a manager whose blocks are in sight; what MvccFirst asks. -/
import Derived.Test.YtiooacaplajidaaNa
namespace Go.Proofs.Ytiooacaplajidaa
open Go.RowKit
set_option maxRecDepth 100000
set_option linter.unusedVariables false
set_option linter.unusedSimpArgs false

section
variable {w : World} {base mb N D : Nat} {s : St} {X : Nat → Prop}
theorem mgx_begin (h : MGx X w base mb N D s) (hb1 : s.begun ≤ 9000000000000000000) (hN : N < 4611686018427387904) : Calls Try.prog 15 #[.pointer (some ⟨mb, 0, none⟩)] w fun e w' => e = .returned (.tuple #[.int .i64 (s.begun + 1), .int .i64 s.last]) ∧ (∃ kb pb, MGx (fun k => X k ∨ w.heap.size ≤ k) w' base mb (N + 1) D (begS s (s.begun + 1) kb pb)) ∧ Fr w w' X := by
  obtain ⟨rl, hl, hi, hd, hX⟩ := h
  refine (begin_any hl hi.b0 hb1 hN).mono ?_
  rintro e w' ⟨rfl, ⟨kb, pb, h1, hk, hp⟩, f⟩
  refine ⟨rfl, ⟨kb, pb, _, h1, inv_beg hi kb pb, hd, fun k r hr => ?_⟩, f.mono (fun k _ h => ?_)⟩
  · unfold rlB at hr
    split at hr
    · rename_i he; exact .inr (by omega)
    · split at hr
      · rename_i he; exact .inr (by omega)
      · exact .inl (hX k r hr)
  · rcases h with h | h
    · have h : k = mb := h; subst h; exact hX _ _ hl.rm
    · have h : k = s.ab := h; subst h; exact hX _ _ hl.ra
def WriteX (X : Nat → Prop) (w : World) (base mb N D : Nat) (s : St) (t : Int) (kn : Nat) (K : List ByteArray) (e : Ending) (w' : World) : Prop :=
  (s.act t = none ∧ e = .returned (.int .i64 70) ∧ w' = w) ∨ (∃ x, s.act t = some x ∧ e = .returned (.int .i64 0) ∧ MGx X w' base mb N D (setT s t (some { x with ks := addK x.ks K, kn := x.kn + kn })) ∧ Fr w w' X)
theorem mgx_write (h : MGx X w base mb N D s) (t : Int) (ht : In64 t) (ka : Option Addr) (kn kc : Nat) (K : List ByteArray) (hK : StrsIn (fun k => ¬ X k) w ka K) (hkn : K.length = kn) (hN : ∀ x, s.act t = some x → x.kn + kn < 4611686018427387904) : Calls Try.prog 16 #[.pointer (some ⟨mb, 0, none⟩), .int .i64 t, .slice ka kn kc] w fun e w' => WriteX X w base mb N D s t kn K e w' := by
  obtain ⟨rl, hl, hi, hd, hX⟩ := h
  refine (write_any hl t ht ka kn kc K (hK.imp (fun k hk => ?_)) hkn (fun d hd => (hi.dl d hd).2.2) hN).mono ?_
  · cases hr : rl k with
    | none => rfl
    | some r => exact absurd (hX k r hr) hk
  · rintro e w' (h | ⟨x, h1, h2, h3, h4⟩)
    · exact .inl h
    · refine .inr ⟨x, h1, h2, ⟨rl, h3, inv_set hi h1 _ _, hd, hX⟩, h4.mono (fun k _ hk => ?_)⟩
      have hk : k = x.kb := hk
      subst hk
      exact hX _ _ (hl.tx t x h1).rk
theorem mgx_tick (h : MGx X w base mb N D s) (n : Int) : Calls Try.prog 19 #[.pointer (some ⟨mb, 0, none⟩), .int .i64 n] w fun e w' => e = .returned (.tuple #[]) ∧ MGx X w' base mb N D { s with now := tickP s.now n } ∧ Fr w w' X := by
  obtain ⟨rl, hl, hi, hd, hX⟩ := h
  refine (tick_any hl hi.n0 hi.n1 n).mono ?_
  rintro e w' ⟨rfl, h1, f⟩
  have hn := hi.n0
  have hn1 := hi.n1
  refine ⟨rfl, ⟨rl, h1, ⟨?_, ?_, hi.l0, hi.l1, hi.b0, hi.o0, hi.ob, hi.ac, hi.mo, hi.sl, hi.dl⟩, hd, hX⟩, f.mono (fun k _ h => by have h : k = mb := h; subst h; exact hX _ _ hl.rm)⟩
  · show 0 ≤ tickP s.now n
    unfold tickP; split <;> omega
  · show tickP s.now n ≤ 1099511627776
    unfold tickP; split <;> omega
/-- Active answers with a list of its own, and changes nothing. -/
theorem mg_active (h : MG w base mb N D s) (hN : N ≤ 17592186044416) : Calls Try.prog 14 #[.pointer (some ⟨mb, 0, none⟩)] w fun e w' => (∃ a n c, e = .returned (.slice a n c)) ∧ Fr w w' (fun _ => False) := by
  obtain ⟨rl, hl, hi, _⟩ := h
  obtain ⟨D0, hown, hsay⟩ := hl.am
  have hz : Maps.size D0 ≤ N := hown.size_le
  refine (active_raw hl.c4 hown (by unfold maxLen; omega) (by omega)).mono ?_
  rintro e w' ⟨v, ss, rfl, hS, hrow, hnil, hb⟩
  refine ⟨?_, ⟨hb.os, hb.tape, hb.output, hb.size, fun k hk _ => hb.block k hk⟩⟩
  obtain ⟨_, ⟨h1, _⟩ | ⟨g, cap, cur, h1, _⟩⟩ := hrow
  · exact ⟨_, _, _, by rw [h1]⟩
  · exact ⟨_, _, _, by rw [h1]⟩
end

/-- One that was committed: its stamp, and what it wrote. -/
structure Dd where
  id : Int
  K : List ByteArray
  n : Int
/-- What the statement keeps beside the manager: snapshots, keys, what is done. -/
structure FI (s : St) (sn : List Int) (ks : List (List ByteArray)) (dn : List Dd) (last : Int) : Prop where
  l1 : (sn.length : Int) = s.begun + 1
  l2 : ks.length = sn.length
  la : last = s.last
  ac : ∀ (i : Nat) (x : Tx), s.act i = some x → sn[i]? = some x.snap ∧ ∃ K, ks[i]? = some K ∧ ∀ k : ByteArray, k.size ≤ maxLen → (x.ks k = some () ↔ k ∈ K)
  sz : ∀ K ∈ ks, ∀ k ∈ K, k.size ≤ maxLen
  dl : ∀ d ∈ dn, d.n ≤ last ∧ ∀ k ∈ d.K, k.size ≤ maxLen
  dc : ∀ d ∈ dn, ∀ k ∈ d.K, ∀ t x, s.act t = some x → x.snap < d.n → ∃ v, s.st k = some v ∧ d.n ≤ v
theorem addK_iff (f : Ks) (K : List ByteArray) (k : ByteArray) : addK f K k = some () ↔ f k = some () ∨ k ∈ K := by
  unfold addK
  split
  · rename_i h; simp [h]
  · rename_i h; simp [h]
section
variable {s : St} {sn : List Int} {ks : List (List ByteArray)} {dn : List Dd} {last : Int}
theorem FI.begin (h : FI s sn ks dn last) (hi : Inv s) (kb pb : Nat) : FI (begS s (s.begun + 1) kb pb) (sn ++ [s.last]) (ks ++ [[]]) dn last := by
  have h1 := h.l1
  have h2 := h.l2
  have hact : ∀ t x, (begS s (s.begun + 1) kb pb).act t = some x → (t = s.begun + 1 ∧ x = ⟨s.last, pb, kb, fun _ => none, 0⟩) ∨ s.act t = some x := by
    intro t x hx
    unfold begS at hx
    simp only at hx
    split at hx
    · rename_i he; cases hx; exact .inl ⟨he, rfl⟩
    · exact .inr hx
  have hb0 := hi.b0
  refine ⟨?_, by simp [h2], h.la, ?_, ?_, h.dl, ?_⟩
  · show ((sn ++ [s.last]).length : Int) = s.begun + 1 + 1
    rw [List.length_append]; simp; omega
  · intro i x hx
    rcases hact i x hx with ⟨h4, h5⟩ | h4
    · have hl : i = sn.length := by omega
      subst h5
      refine ⟨by rw [hl, List.getElem?_append_right (Nat.le_refl _)]; simp, [], by rw [hl, ← h2, List.getElem?_append_right (Nat.le_refl _)]; simp, fun k _ => by simp⟩
    · obtain ⟨q1, K, q2, q3⟩ := h.ac i x h4
      exact ⟨by rw [List.getElem?_append_left (List.getElem?_eq_some_iff.1 q1).1]; exact q1, K, by rw [List.getElem?_append_left (List.getElem?_eq_some_iff.1 q2).1]; exact q2, q3⟩
  · intro K hK k hk
    rcases List.mem_append.1 hK with hK | hK
    · exact h.sz K hK k hk
    · rw [List.mem_singleton] at hK; subst hK; cases hk
  · intro d hd k hk t x hx hlt
    rcases hact t x hx with ⟨h4, h5⟩ | h4
    · subst h5
      have := (h.dl d hd).1
      have := h.la
      have hlt : s.last < d.n := hlt
      omega
    · exact h.dc d hd k hk t x h4 hlt
theorem FI.tick (h : FI s sn ks dn last) (n : Int) : FI { s with now := n } sn ks dn last := ⟨h.l1, h.l2, h.la, h.ac, h.sz, h.dl, h.dc⟩
/-- One that is active has its place in both lists. -/
theorem FI.at (h : FI s sn ks dn last) (hi : Inv s) {t : Int} {x : Tx} (hx : s.act t = some x) : ∃ (i : Nat) (K : List ByteArray), t = i ∧ i < sn.length ∧ sn[i]? = some x.snap ∧ ks[i]? = some K ∧ (∀ k : ByteArray, k.size ≤ maxLen → (x.ks k = some () ↔ k ∈ K)) ∧ (∀ k ∈ K, k.size ≤ maxLen) := by
  obtain ⟨a1, a2, _⟩ := hi.ac t x hx
  have h0 := hi.o0
  have h1 := h.l1
  obtain ⟨i, rfl⟩ : ∃ i : Nat, t = i := ⟨t.toNat, by omega⟩
  obtain ⟨q1, K, q2, q3⟩ := h.ac i x hx
  exact ⟨i, K, rfl, by omega, q1, q2, q3, h.sz K (List.mem_of_getElem? q2)⟩
theorem FI.write (h : FI s sn ks dn last) {i : Nat} {x : Tx} (hx : s.act i = some x) (K K2 : List ByteArray) (hK : ks[i]? = some K) (hk2 : ∀ k ∈ K2, k.size ≤ maxLen) (kn : Nat) : FI (setT s i (some { x with ks := addK x.ks K2, kn := kn })) sn (ks.set i (K ++ K2)) dn last := by
  obtain ⟨q1, K', q2, q3⟩ := h.ac i x hx
  rw [hK] at q2
  cases q2
  have hact : ∀ t y, (setT s i (some { x with ks := addK x.ks K2, kn := kn })).act t = some y → (t = i ∧ y = { x with ks := addK x.ks K2, kn := kn }) ∨ (t ≠ i ∧ s.act t = some y) := by
    intro t y hy
    unfold setT at hy
    simp only at hy
    split at hy
    · rename_i he; cases hy; exact .inl ⟨he, rfl⟩
    · rename_i he; exact .inr ⟨he, hy⟩
  have hlt := (List.getElem?_eq_some_iff.1 hK).1
  refine ⟨h.l1, by rw [List.length_set]; exact h.l2, h.la, ?_, ?_, h.dl, ?_⟩
  · intro j y hy
    rcases hact j y hy with ⟨h4, h5⟩ | ⟨h4, h5⟩
    · have hji : j = i := by omega
      subst hji h5
      refine ⟨q1, K ++ K2, by rw [List.getElem?_set_self hlt], fun k hk => ?_⟩
      show addK x.ks K2 k = some () ↔ _
      rw [addK_iff, q3 k hk, List.mem_append]
    · obtain ⟨r1, K3, r2, r3⟩ := h.ac j y h5
      refine ⟨r1, K3, ?_, r3⟩
      rw [List.getElem?_set_ne (by omega)]
      exact r2
  · intro K3 hK3 k hk
    rcases List.mem_or_eq_of_mem_set hK3 with h3 | h3
    · exact h.sz K3 h3 k hk
    · subst h3
      rcases List.mem_append.1 hk with hk | hk
      · exact h.sz K (List.mem_of_getElem? hK) k hk
      · exact hk2 k hk
  · intro d hd k hk t y hy hlt
    rcases hact t y hy with ⟨h4, h5⟩ | ⟨h4, h5⟩
    · subst h5
      exact h.dc d hd k hk i x hx hlt
    · exact h.dc d hd k hk t y h5 hlt
/-- One ends without a stamp of its own. -/
theorem FI.ended {s' : St} {t : Int} (h : FI s sn ks dn last) (hE : Ended s t s') : FI s' sn ks dn last := by
  have hact : ∀ u y, s'.act u = some y → s.act u = some y := fun u y hy => by rw [hE.act] at hy; exact act_set hy
  refine ⟨by rw [hE.begun]; exact h.l1, h.l2, by rw [hE.last]; exact h.la, fun i x hx => h.ac i x (hact _ _ hx), h.sz, h.dl, ?_⟩
  · intro d hd k hk u y hy hlt
    obtain ⟨v, h1, h2⟩ := h.dc d hd k hk u y (hact u y hy) hlt
    rcases hE.st k ((h.dl d hd).2 k hk) with h3 | ⟨_, v', h4, _, h5⟩
    · exact ⟨v, by rw [h3]; exact h1, h2⟩
    · rw [h1] at h4
      cases h4
      have := h5 u y hy
      omega
/-- One is committed with a stamp of its own: nobody that it lay across wrote what it wrote. -/
theorem FI.apart (h : FI s sn ks dn last) {i : Nat} {x : Tx} {K : List ByteArray} (hx : s.act i = some x) (hcr : ¬ Crosses s x) (hK : ∀ k : ByteArray, k.size ≤ maxLen → (x.ks k = some () ↔ k ∈ K)) : ∀ d ∈ dn, x.snap < d.n → ∀ k ∈ d.K, k ∉ K := by
  intro d hd hlt k hk hk2
  obtain ⟨v, h1, h2⟩ := h.dc d hd k hk i x hx hlt
  have hz := (h.dl d hd).2 k hk
  exact hcr ⟨k, hz, (hK k hz).2 hk2, by rw [h1]; show x.snap < v; omega⟩
theorem FI.keep {s' : St} {i : Nat} {x : Tx} {K : List ByteArray} {v : Int} {dv : Value} (h : FI s sn ks dn last) (hx : s.act i = some x) (hK : ks[i]? = some K) (hv : s.last < v) (hE : Ended (keepS (lastS s v) i x v dv) i s') : FI s' sn ks (dn ++ [⟨i, K, v⟩]) v := by
  obtain ⟨q1, K', q2, q3⟩ := h.ac i x hx
  rw [hK] at q2
  cases q2
  have hla := h.la
  have hsz := h.sz K (List.mem_of_getElem? hK)
  have hmid : FI (keepS (lastS s v) i x v dv) sn ks (dn ++ [⟨i, K, v⟩]) v := by
    refine ⟨h.l1, h.l2, rfl, h.ac, h.sz, ?_, ?_⟩
    · intro d hd
      rcases List.mem_append.1 hd with hd | hd
      · obtain ⟨a1, a2⟩ := h.dl d hd
        exact ⟨by omega, a2⟩
      · rw [List.mem_singleton] at hd; subst hd; exact ⟨Int.le_refl _, hsz⟩
    · intro d hd k hk u y hy hlt
      show ∃ v', keepF s.st x.ks v k = some v' ∧ d.n ≤ v'
      unfold keepF
      by_cases hks : x.ks k = some ()
      · rw [if_pos hks]
        refine ⟨v, rfl, ?_⟩
        rcases List.mem_append.1 hd with hd | hd
        · have := (h.dl d hd).1; omega
        · rw [List.mem_singleton] at hd; subst hd; exact Int.le_refl _
      · rw [if_neg hks]
        rcases List.mem_append.1 hd with hd | hd
        · exact h.dc d hd k hk u y hy hlt
        · rw [List.mem_singleton] at hd; subst hd
          exact absurd ((q3 k (hsz k hk)).2 hk) hks
  exact hmid.ended hE
end
end Go.Proofs.Ytiooacaplajidaa
