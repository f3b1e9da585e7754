/- A reader among others. -/
import Derived.Test.YtiooacaplajidaaMw
namespace Go.Proofs.Ytiooacaplajidaa
open Go.RowKit
set_option maxRecDepth 100000
set_option linter.unusedVariables false
set_option linter.unusedSimpArgs false

/-- A manager, in which one that writes nothing may be active. -/
structure RI (w V : World) (bs mb : Nat) (B : Int) (Q NB DB : Nat) (t sn : Int) (s : St) : Prop where
  m : MG V bs mb NB DB s
  r : t = 0 ∨ ∃ x, s.act t = some x ∧ x.snap = sn ∧ Empty x
  la : 3 ≤ s.last
  bg : s.begun ≤ B
  kn : ∀ u x, s.act u = some x → x.kn ≤ Q
  f : Fr w V (fun k => bs ≤ k)
section
variable {w V : World} {bs mb Q NB DB : Nat} {B t sn : Int} {s : St}
theorem RI.more {B' : Int} {Q' NB' DB' : Nat} (h : RI w V bs mb B Q NB DB t sn s) (hB : B ≤ B') (hQ : Q ≤ Q') (hN : NB ≤ NB') (hD : DB ≤ DB') : RI w V bs mb B' Q' NB' DB' t sn s :=
  ⟨h.m.more hN (by obtain ⟨_, _, _, hd⟩ := h.m; omega), h.r, h.la, by have := h.bg; omega, fun u x hx => Nat.le_trans (h.kn u x hx) hQ, h.f⟩
theorem RI.fr {V' : World} (h : RI w V bs mb B Q NB DB t sn s) (hf : Fr V V' (fun _ => False)) : RI w V' bs mb B Q NB DB t sn s :=
  ⟨h.m.fr hf, h.r, h.la, h.bg, h.kn, (h.f.trans hf).mono (fun _ _ h => h.elim id False.elim)⟩
theorem ri_begin (h : RI w V bs mb B Q NB DB t sn s) (hB : B ≤ 9000000000000000000) (hN : NB < 4611686018427387904) : Calls Try.prog 15 #[.pointer (some ⟨mb, 0, none⟩)] V fun e V' => ∃ u l, e = .returned (.tuple #[.int .i64 u, .int .i64 l]) ∧ (∃ s', RI w V' bs mb (B + 1) Q (NB + 1) DB t sn s') ∧ (∃ s', RI w V' bs mb (B + 1) Q (NB + 1) DB u l s') ∧ 0 < u ∧ Fr V V' (fun k => bs ≤ k) := by
  have hbg := h.bg
  refine (mg_begin h.m (by omega) hN).mono ?_
  rintro e V' ⟨rfl, ⟨kb, pb, h1⟩, f1⟩
  have hb0 := h.m.inv.b0
  have hkn : ∀ u x, (begS s (s.begun + 1) kb pb).act u = some x → x.kn ≤ Q := by
    intro u x hx
    unfold begS at hx
    simp only at hx
    split at hx
    · cases hx; exact Nat.zero_le _
    · exact h.kn u x hx
  have hf : Fr w V' (fun k => bs ≤ k) := (h.f.trans f1).mono (fun _ _ h => h.elim id id)
  refine ⟨_, _, rfl, ⟨_, h1, ?_, h.la, (show s.begun + 1 ≤ B + 1 by omega), hkn, hf⟩, ⟨_, h1, .inr ⟨⟨s.last, pb, kb, fun _ => none, 0⟩, ?_, rfl, fun k _ => rfl⟩, h.la, (show s.begun + 1 ≤ B + 1 by omega), hkn, hf⟩, by omega, f1⟩
  · rcases h.r with h2 | ⟨x, h2, h3⟩
    · exact .inl h2
    · refine .inr ⟨x, ?_, h3⟩
      have := (h.m.inv.ac t x h2).2.1
      show (if t = s.begun + 1 then _ else s.act t) = some x
      rw [if_neg (by omega)]
      exact h2
  · show (if s.begun + 1 = s.begun + 1 then _ else _) = _
    rw [if_pos rfl]
theorem ri_write (h : RI w V bs mb B Q NB DB t sn s) (u : Int) (hu : In64 u) (hne : u ≠ t) (ka : Option Addr) (kn kc : Nat) (K : List ByteArray) (hK : StrsIn (fun k => k < bs) V ka K) (hkn : K.length = kn) (hQ : Q + kn < 4611686018427387904) : Calls Try.prog 16 #[.pointer (some ⟨mb, 0, none⟩), .int .i64 u, .slice ka kn kc] V fun e V' => ∃ c, e = .returned (.int .i64 c) ∧ (∃ s', RI w V' bs mb B (Q + kn) NB DB t sn s') ∧ Fr V V' (fun k => bs ≤ k) := by
  refine (mg_write h.m (Fr.refl V _) u hu ka kn kc K (hK.imp (fun k hk => .inl hk)) hkn (fun x hx => by have := h.kn u x hx; omega)).mono ?_
  rintro e V' (⟨h1, rfl, h3, rfl⟩ | ⟨x, h1, rfl, h3, h4⟩)
  · exact ⟨_, rfl, ⟨s, h.more (Int.le_refl _) (Nat.le_add_right _ _) (Nat.le_refl _) (Nat.le_refl _)⟩, Fr.refl _ _⟩
  · refine ⟨_, rfl, ⟨_, h3, ?_, h.la, h.bg, fun v y hy => ?_, (h.f.trans h4).mono (fun _ _ h => h.elim id id)⟩, h4⟩
    · rcases h.r with h2 | ⟨y, h2, h5⟩
      · exact .inl h2
      · refine .inr ⟨y, ?_, h5⟩
        show (if t = u then _ else s.act t) = some y
        rw [if_neg (fun he => hne he.symm)]
        exact h2
    · unfold setT at hy
      simp only at hy
      split at hy
      · cases hy
        have := h.kn u x h1
        show x.kn + kn ≤ Q + kn
        omega
      · have := h.kn v y hy; omega
theorem ri_commit (h : RI w V bs mb B Q NB DB t sn s) (u : Int) (hu : In64 u) (hne : u ≠ t) (hB : B ≤ 9000000000000000000) (hN : NB + Q < 4611686018427387904) (hD : DB ≤ 4398046511104) : Calls Try.prog 17 #[.pointer (some ⟨mb, 0, none⟩), .int .i64 u] V fun e V' => (∃ c d, e = .returned (.tuple #[.int .i64 c, .int .i64 d])) ∧ (∃ s', RI w V' bs mb B Q (NB + Q) (DB + 1) t sn s') ∧ Fr V V' (fun k => bs ≤ k) := by
  have hbg := h.bg
  refine (commit_any h.m u hu (by omega) (fun x hx => by have := h.kn u x hx; omega) hD).mono ?_
  rintro e V' ⟨rfl, f, hp⟩
  refine ⟨⟨_, _, rfl⟩, ?_, f⟩
  have hf : Fr w V' (fun k => bs ≤ k) := (h.f.trans f).mono (fun _ _ h => h.elim id id)
  rcases hp with ⟨_, _, h1⟩ | ⟨x, s1, s', hx, h1, hE, hor⟩
  · obtain ⟨_, _, _, hd⟩ := h.m
    exact ⟨s, h1.more (Nat.le_add_right _ _) (by omega), h.r, h.la, h.bg, h.kn, hf⟩
  · have hs1 : s1.act = s.act ∧ s1.begun = s.begun ∧ s.last ≤ s1.last := by
      rcases hor with ⟨rfl, _⟩ | ⟨_, _, _, _, dv, rfl⟩
      · exact ⟨rfl, rfl, Int.le_refl _⟩
      · exact ⟨rfl, rfl, by have := next_gt s; show s.last ≤ nextP s; omega⟩
    have hact : ∀ v y, s'.act v = some y → s.act v = some y := by
      intro v y hy
      rw [hE.act] at hy
      have := act_set hy
      rw [hs1.1] at this
      exact this
    have hxk := h.kn u x hx
    have hdl : s'.dn.length ≤ DB + 1 := by obtain ⟨_, _, _, hd⟩ := h1; exact hd
    refine ⟨s', h1.more (by omega) hdl, ?_, by rw [hE.last]; have := h.la; omega, by rw [hE.begun, hs1.2.1]; exact h.bg, fun v y hy => h.kn v y (hact v y hy), hf⟩
    rcases h.r with h2 | ⟨y, h2, h5⟩
    · exact .inl h2
    · refine .inr ⟨y, ?_, h5⟩
      rw [hE.act]
      show (if t = u then none else s1.act t) = some y
      rw [if_neg (fun he => hne he.symm), hs1.1]
      exact h2
theorem ri_tick (h : RI w V bs mb B Q NB DB t sn s) (n : Int) : Calls Try.prog 19 #[.pointer (some ⟨mb, 0, none⟩), .int .i64 n] V fun e V' => e = .returned (.tuple #[]) ∧ (∃ s', RI w V' bs mb B Q NB DB t sn s') ∧ Fr V V' (fun k => bs ≤ k) := by
  refine (mg_tick h.m n).mono ?_
  rintro e V' ⟨rfl, h1, f⟩
  exact ⟨rfl, ⟨_, h1, h.r, h.la, h.bg, h.kn, (h.f.trans f).mono (fun _ _ h => h.elim id id)⟩, f⟩
theorem mg_snapshot {N D : Nat} (h : MG V bs mb N D s) (u : Int) (hu : In64 u) : Calls Try.prog 20 #[.pointer (some ⟨mb, 0, none⟩), .int .i64 u] V fun e w' => e = .returned (match s.act u with | none => .tuple #[.int .i64 0, .int .i64 70] | some x => .tuple #[.int .i64 x.snap, .int .i64 0]) ∧ w' = V := by
  obtain ⟨rl, hl, _⟩ := h
  exact snapshot_any hl u hu
end
end Go.Proofs.Ytiooacaplajidaa
