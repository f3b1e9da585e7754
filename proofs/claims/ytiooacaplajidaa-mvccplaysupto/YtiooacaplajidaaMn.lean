/- What calls mean for a manager as a whole. -/
import Derived.Test.YtiooacaplajidaaMl
namespace Go.Proofs.Ytiooacaplajidaa
open Go.RowKit
set_option maxRecDepth 100000
set_option linter.unusedVariables false
set_option linter.unusedSimpArgs false

theorem mg_new (w : World) (l g : Int) : Calls Try.prog 9 #[.int .i64 l, .int .i64 g] w fun e w' => e = .returned (.pointer (some ⟨w.heap.size + 2, 0, none⟩)) ∧ MG w' w.heap.size (w.heap.size + 2) 0 0 (s0 (lastP l) (begunP g) w.heap.size) ∧ Fr w w' (fun _ => False) := by
  refine (new_any w l g).mono ?_
  rintro e w' ⟨rfl, h1, h2⟩
  refine ⟨rfl, ⟨_, h1, ?_, Nat.le_refl _⟩, h2⟩
  have a1 : 0 ≤ lastP l ∧ lastP l ≤ 1099511627776 := by unfold lastP; omega
  have a2 : 0 ≤ begunP g := by unfold begunP; omega
  exact ⟨a1.1, a1.2, a1.1, a1.2, a2, (show 0 ≤ begunP g + 1 by omega), Int.le_refl _, (fun t x h => by cases h), (fun t u x y h => by cases h), (fun k v _ h => by cases h), (fun d h => by cases h)⟩
section
variable {w : World} {base mb N D : Nat} {s : St}
theorem inv_beg (h : Inv s) (kb pb : Nat) : Inv (begS s (s.begun + 1) kb pb) := by
  have act' : ∀ u x, (begS s (s.begun + 1) kb pb).act u = some x → (u = s.begun + 1 ∧ x.snap = s.last) ∨ (u ≠ s.begun + 1 ∧ s.act u = some x) := by
    intro u x hx
    unfold begS at hx
    simp only at hx
    split at hx
    · rename_i hu; cases hx; exact .inl ⟨hu, rfl⟩
    · rename_i hu; exact .inr ⟨hu, hx⟩
  refine ⟨h.n0, h.n1, h.l0, h.l1, (show 0 ≤ s.begun + 1 by have := h.b0; omega), h.o0, (show s.oldest ≤ s.begun + 1 + 1 by have := h.ob; omega), fun u x hx => ?_, fun t u x y hx hy htu => ?_, h.sl, fun d hd => ?_⟩
  · rcases act' u x hx with ⟨h1, h2⟩ | ⟨h1, h2⟩
    · exact ⟨(show s.oldest ≤ u by have := h.ob; omega), (show u ≤ s.begun + 1 by omega), by rw [h2]; exact h.l0, by rw [h2]; exact Int.le_refl _⟩
    · obtain ⟨q1, q2, q3, q4⟩ := h.ac u x h2
      exact ⟨q1, (show u ≤ s.begun + 1 by omega), q3, q4⟩
  · rcases act' t x hx with ⟨h1, h2⟩ | ⟨h1, h2⟩
    · rcases act' u y hy with ⟨h3, h4⟩ | ⟨h3, h4⟩
      · omega
      · have := h.ac u y h4; omega
    · rcases act' u y hy with ⟨h3, h4⟩ | ⟨h3, h4⟩
      · have := h.ac t x h2; omega
      · exact h.mo t u x y h2 h4 htu
  · obtain ⟨q1, q2, q3⟩ := h.dl d hd
    refine ⟨q1, (show d.id ≤ s.begun + 1 by omega), ?_⟩
    show (if d.id = s.begun + 1 then _ else s.act d.id) = none
    rw [if_neg (by omega)]
    exact q3
theorem mg_begin (h : MG w base mb N D s) (hb1 : s.begun ≤ 9000000000000000000) (hN : N < 4611686018427387904) : Calls Try.prog 15 #[.pointer (some ⟨mb, 0, none⟩)] w fun e w' => e = .returned (.tuple #[.int .i64 (s.begun + 1), .int .i64 s.last]) ∧ (∃ kb pb, MG w' base mb (N + 1) D (begS s (s.begun + 1) kb pb)) ∧ Fr w w' (fun k => base ≤ k) := by
  obtain ⟨rl, hl, hi, hd⟩ := h
  refine (begin_any hl hi.b0 hb1 hN).mono ?_
  rintro e w' ⟨rfl, ⟨kb, pb, h1, _, _⟩, f⟩
  refine ⟨rfl, ⟨kb, pb, _, h1, inv_beg hi kb pb, hd⟩, f.mono (fun k _ h => ?_)⟩
  rcases h with h | h
  · have h : k = mb := h; subst h; exact (hl.lo _ _ hl.rm).1
  · have h : k = s.ab := h; subst h; exact (hl.lo _ _ hl.ra).1
theorem inv_set {t : Int} {x : Tx} (h : Inv s) (hx : s.act t = some x) (ks : Ks) (kn : Nat) : Inv (setT s t (some { x with ks := ks, kn := kn })) := by
  have act' : ∀ u y, (setT s t (some { x with ks := ks, kn := kn })).act u = some y → ∃ z, s.act u = some z ∧ z.snap = y.snap := by
    intro u y hy
    unfold setT at hy
    simp only at hy
    split at hy
    · rename_i hu; cases hy; subst hu; exact ⟨x, hx, rfl⟩
    · exact ⟨y, hy, rfl⟩
  refine ⟨h.n0, h.n1, h.l0, h.l1, h.b0, h.o0, h.ob, fun u y hy => ?_, fun t u a b ha hb htu => ?_, h.sl, fun d hd => ?_⟩
  · obtain ⟨z, h1, h2⟩ := act' u y hy
    obtain ⟨q1, q2, q3, q4⟩ := h.ac u z h1
    exact ⟨q1, q2, by rw [← h2]; exact q3, by rw [← h2]; exact q4⟩
  · obtain ⟨z, h1, h2⟩ := act' t a ha
    obtain ⟨z', h1', h2'⟩ := act' u b hb
    have := h.mo t u z z' h1 h1' htu
    omega
  · obtain ⟨q1, q2, q3⟩ := h.dl d hd
    refine ⟨q1, q2, ?_⟩
    show (if d.id = t then _ else s.act d.id) = none
    split
    · rename_i he; rw [he, hx] at q3; cases q3
    · exact q3
def WriteMG (w : World) (base mb N D : Nat) (s : St) (t : Int) (kn : Nat) (K : List ByteArray) (e : Ending) (w' : World) : Prop :=
  (s.act t = none ∧ e = .returned (.int .i64 70) ∧ MG w' base mb N D s ∧ w' = w) ∨ (∃ x, s.act t = some x ∧ e = .returned (.int .i64 0) ∧ MG w' base mb N D (setT s t (some { x with ks := addK x.ks K, kn := x.kn + kn })) ∧ Fr w w' (fun k => base ≤ k))
theorem mg_write {w1 : World} (h : MG w base mb N D s) (f : Fr w w1 (fun _ => False)) (t : Int) (ht : In64 t) (ka : Option Addr) (kn kc : Nat) (K : List ByteArray) (hK : StrsIn (fun k => k < base ∨ w.heap.size ≤ k) w1 ka K) (hkn : K.length = kn) (hN : ∀ x, s.act t = some x → x.kn + kn < 4611686018427387904) : Calls Try.prog 16 #[.pointer (some ⟨mb, 0, none⟩), .int .i64 t, .slice ka kn kc] w1 fun e w' => WriteMG w1 base mb N D s t kn K e w' := by
  obtain ⟨rl, hl, hi, hd⟩ := h
  refine (write_any (hl.frF f) t ht ka kn kc K (hK.imp (fun k hk => ?_)) hkn (fun d hd => (hi.dl d hd).2.2) hN).mono ?_
  · cases hr : rl k with
    | none => rfl
    | some r => have := hl.lo k r hr; omega
  · rintro e w' (⟨h1, h2, h3⟩ | ⟨x, h1, h2, h3, h4⟩)
    · subst h3
      exact .inl ⟨h1, h2, ⟨rl, hl.frF f, hi, hd⟩, rfl⟩
    · refine .inr ⟨x, h1, h2, ⟨rl, h3, inv_set hi h1 _ _, hd⟩, h4.mono (fun k _ hk => ?_)⟩
      have hk : k = x.kb := hk
      subst hk
      exact (hl.lo _ _ (hl.tx t x h1).rk).1
theorem mg_tick (h : MG w base mb N D s) (n : Int) : Calls Try.prog 19 #[.pointer (some ⟨mb, 0, none⟩), .int .i64 n] w fun e w' => e = .returned (.tuple #[]) ∧ MG w' base mb N D { s with now := tickP s.now n } ∧ Fr w w' (fun k => base ≤ k) := by
  obtain ⟨rl, hl, hi, hd⟩ := h
  refine (tick_any hl hi.n0 hi.n1 n).mono ?_
  rintro e w' ⟨rfl, h1, f⟩
  have hn := hi.n0
  have hn1 := hi.n1
  refine ⟨rfl, ⟨rl, h1, ⟨?_, ?_, hi.l0, hi.l1, hi.b0, hi.o0, hi.ob, hi.ac, hi.mo, hi.sl, hi.dl⟩, hd⟩, f.mono (fun k _ h => by have h : k = mb := h; subst h; exact (hl.lo _ _ hl.rm).1)⟩
  · show 0 ≤ tickP s.now n
    unfold tickP; split <;> omega
  · show tickP s.now n ≤ 1099511627776
    unfold tickP; split <;> omega
theorem mg_now (h : MG w base mb N D s) : Calls Try.prog 12 #[.pointer (some ⟨mb, 0, none⟩)] w fun e w' => e = .returned (.int .i64 s.now) ∧ w' = w := by
  obtain ⟨rl, hl, _⟩ := h
  exact now_any hl
theorem mg_last (h : MG w base mb N D s) : Calls Try.prog 13 #[.pointer (some ⟨mb, 0, none⟩)] w fun e w' => e = .returned (.int .i64 s.last) ∧ w' = w := by
  obtain ⟨rl, hl, _⟩ := h
  exact last_any hl
theorem MG.inv (h : MG w base mb N D s) : Inv s := by obtain ⟨_, _, hi, _⟩ := h; exact hi
theorem MG.more {N' D' : Nat} (h : MG w base mb N D s) (hN : N ≤ N') (hD : s.dn.length ≤ D') : MG w base mb N' D' s := by obtain ⟨rl, hl, hi, _⟩ := h; exact ⟨rl, hl.more hN, hi, hD⟩
theorem MG.frB {w' : World} (h : MG w base mb N D s) {X : Nat → Prop} (hf : Fr w w' X) (hx : ∀ k, X k → w.heap.size ≤ k) : MG w' base mb N D s := by
  obtain ⟨rl, hl, hi⟩ := h
  exact ⟨rl, hl.fr hf (fun k r hk h => by have := hx k h; have := (hl.lo k r hk).2; omega), hi⟩
end
end Go.Proofs.Ytiooacaplajidaa
