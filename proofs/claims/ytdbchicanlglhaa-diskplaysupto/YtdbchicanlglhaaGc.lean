/- One step of a script: Crash. -/
import Derived.Test.YtdbchicanlglhaaGb
namespace Go.Proofs.Ytdbchicanlglhaa
open Go.RowKit

theorem lays_same (S : List (List UInt8)) (L : List (Nat × List UInt8)) (kb : List Bool) (tear at_ : Int) (hlw : ∀ p ∈ L, p.2.length = 256 ∧ p.1 < S.length) (k : Nat) :
    laysTo S L (crashN kb tear (min (max at_ 0) 256).toNat) k = laysTo S L (fun i => some (rcnt false kb tear at_ i)) k := by
  induction k with
  | zero => rfl
  | succ k ih =>
    cases hp : L[k]? with
    | none => simp only [laysTo, hp]; exact ih
    | some p =>
      have hlt : p.1 < S.length := (hlw p (List.mem_of_getElem? hp)).2
      rw [laysTo_some S L (fun i => some (rcnt false kb tear at_ i)) k p hp _ rfl, ← ih]
      by_cases h1 : (k : Int) = tear
      · rw [rcnt_tear h1, laysTo_some S L _ k p hp _ (by unfold crashN; rw [if_pos h1])]
      · by_cases h2 : kb.getD k false = true
        · rw [rcnt_kept h1 h2, laysTo_some S L _ k p hp 256 (by unfold crashN; rw [if_neg h1, if_pos h2])]
        · rw [rcnt_not h1 h2, layS_zero _ _ _ (by rw [laysTo_length]; exact hlt), laysTo_none S L _ k (by unfold crashN; rw [if_neg h1, if_neg h2])]

theorem Bools.away {w w' : World} {X : Nat → Prop} {B : Nat} {ka : Option Addr} {kl : Nat} {kb : List Bool} (h : Bools w ka kl kb) (hlo : ∀ g off, ka = some ⟨g, off, none⟩ → kl ≠ 0 → g < B) (hf : Fr w w' X) (hx : ∀ k, k < B → ¬ X k) : Bools w' ka kl kb := by
  refine ⟨h.1, ?_⟩
  by_cases h0 : kl = 0
  · exact .inl h0
  · obtain ⟨g, off, rfl, hc⟩ := h.2.resolve_left h0
    refine .inr ⟨g, off, rfl, fun j u hu => ?_⟩
    have h1 := hc j u hu
    rw [World.cell?_of_block (w := w) (hf.block g (World.block_lt_of_cell? w _ h1) (hx g (hlo g off rfl h0)))]
    exact h1
theorem Bools.keepIs {w : World} {gs B : Nat} {ka : Option Addr} {kl : Nat} {kb : List Bool} (h : Bools w ka kl kb) (hlo : ∀ g off, ka = some ⟨g, off, none⟩ → kl ≠ 0 → g < B) (hg : B ≤ gs) : KeepIs w gs ka kl kb := by
  refine ⟨h.1, ?_⟩
  by_cases h0 : kl = 0
  · exact .inl h0
  · obtain ⟨g, off, rfl, hc⟩ := h.2.resolve_left h0
    have := hlo g off rfl h0
    exact .inr ⟨g, off, rfl, by omega, hc⟩

set_option maxRecDepth 100000 in
set_option maxHeartbeats 2000000 in
theorem step_crash {W : World} {B b gs cs : Nat} {Cs : Array Value} {pv : Value} {a : Option Addr} {c : Nat} {a1 : Option Addr} {c1 : Nat} {S : List (List UInt8)} {L : List (Nat × List UInt8)} (h : Both W B b gs cs Cs pv a c a1 c1 S L) (hb : L.length ≤ 4194304)
    (oat : Int) (da : Option Addr) (dl dc : Nat) (ka : Option Addr) (kl kc : Nat) (t0 t1 : Int) (kb : List Bool) (hkb : Bools W ka kl kb) (hlo : ∀ g off, ka = some ⟨g, off, none⟩ → kl ≠ 0 → g < B) :
    Calls Try.prog 16 #[.pointer (some ⟨b, 0, none⟩), .agg #[.slice a S.length c, .slice a1 L.length c1], .agg #[.int .i64 3, .int .i64 oat, .slice da dl dc, .slice ka kl kc, .int .i64 t0, .int .i64 t1]] W (After W B b gs cs pv S L) := by
  have HH := hide h
  clear h
  have HKB := hide hkb
  have HLO := hide hlo
  clear hkb hlo
  go_enter Try.func16, Try.ntmps16
  go_wp2_with fail
  obtain ⟨W3, hW3⟩ : ∃ W3, W3 = ((W.alloc (.cells #[.slice a S.length c, .slice a1 L.length c1] 31)).alloc (.cells #[.int .i64 3, .int .i64 oat, .slice da dl dc, .slice ka kl kc, .int .i64 t0, .int .i64 t1] 38)).alloc (.cells #[.slice none 0 0, .slice none 0 0] 31) := ⟨_, rfl⟩
  rw [← hW3]
  have hbx := box_step (W := W) (x := .slice a S.length c) (y := .slice a1 L.length c1) (c0 := .int .i64 3) (c1 := .int .i64 oat) (c2 := .slice da dl dc) (c3 := .slice ka kl kc) (c4 := .int .i64 t0) (c5 := .int .i64 t1)
  rw [← hW3] at hbx
  have F3 : Fr W W3 (fun _ => False) := by rw [hW3]; exact Fr.alloc3 W _ _ _
  have HS3 := hide (by rw [hW3]; simp : W3.heap.size = W.heap.size + 3)
  have X0 := hide hbx.1
  have X1 := hide hbx.2.1
  have X2 := hide hbx.2.2
  have HF3 := hide F3
  have HB3 := hide (HH.out.fr (F3.mono (by simp)))
  clear hW3 hbx F3
  have hsz := HH.out.size
  have hB := HH.out.lo
  have s3 := HS3.out
  have hk3 : Bools W3 ka kl kb := HKB.out.away HLO.out HF3.out (fun _ _ => id)
  refine (crash_any HB3.out.d ka kl kc kb (hk3.keepIs HLO.out hB.2.1) t0 t1 (by omega)).mono ?_
  rintro e W4 ⟨rfl, Cs4, hD4, F4⟩
  rw [lays_same S L kb t0 t1 HH.out.d.lenw] at hD4
  obtain ⟨SS, hSS⟩ : ∃ SS, SS = laysTo S L (fun i => some (rcnt false kb t0 t1 i)) L.length := ⟨_, rfl⟩
  rw [← hSS] at hD4
  have hSSl : SS.length = S.length := by rw [hSS, laysTo_length]
  have nb : ∀ k, W.heap.size ≤ k → ¬ (k = gs ∨ k = b) := by intro k hk h3; omega
  have hk4 : Bools W4 ka kl kb := hk3.away HLO.out F4 (fun k hk => by omega)
  have Y0 := hide (X0.out.fr F4 (nb _ (by omega)))
  have Y1 := hide (X1.out.fr F4 (nb _ (by omega)))
  have Y2 := hide (X2.out.fr F4 (nb _ (by omega)))
  have HR4 := hide (HB3.out.r.fr F4 (fun k hk => by have := HB3.out.s1 k hk; rintro (h3 | h3); exact this.2.1 h3; exact this.1 h3) (fun k hk => by have := HB3.out.s2 k hk; rintro (h3 | h3); exact this.2.1 h3; exact this.1 h3))
  have HD4 := hide hD4
  have HF4 := hide F4
  have HSS := hide hSS
  have HSSL := hide hSSl
  have HK4 := hide hk4
  have y0 := Y0.out.1
  have y1 := Y0.out.2.1
  have y2 := Y1.out.2.2.2.1
  have y3 := Y1.out.2.2.2.2.1
  have y4 := Y1.out.2.2.2.2.2
  clear hD4 F4 nb hSS hSSl hk3 hk4
  go_wp2_with fail
  refine (rcrash_some HR4.out ka kl kc kb HK4.out t0 t1 HH.out.n1 HH.out.n2 (by omega) HH.out.d.lens HH.out.d.lenw).mono ?_
  rintro e W5 ⟨a', c', rfl, hr5, hg5, F45⟩
  rw [← HSS.out] at hr5
  have z2 := (Y2.out.fr F45 id)
  have u0 := z2.1
  have u1 := z2.2.1
  have u2 := z2.2.2 0
  have u3 := z2.2.2 1
  have HZ2 := hide z2
  have HR5 := hide hr5
  have HG5 := hide hg5
  have HF45 := hide F45
  clear z2 hr5 hg5 F45 y0 y1 y2 y3 y4
  go_wp2
  have A7 := (Fr.setCell W5 ⟨W.heap.size + 1 + 1, 0, none⟩ (.slice a' S.length c')).trans (Fr.setCell _ ⟨W.heap.size + 1 + 1, 1, none⟩ (.slice none 0 0))
  have R7 := (HZ2.out.set0 (.slice a' S.length c')).set1 (.slice none 0 0)
  have F57 := HF45.out.trans A7
  have F07 := (HF3.out.trans (HF4.out.trans F57)).mono (Y := fun k => k = b ∨ k = gs ∨ pv.ownBlock = some k) (by
    rintro k hk (h3 | (h3 | h3) | h3 | h3 | h3)
    · exact h3.elim
    · exact .inr (.inl h3)
    · exact .inl h3
    · exact h3.elim
    · have : k = W.heap.size + 1 + 1 := h3
      omega
    · have : k = W.heap.size + 1 + 1 := h3
      omega)
  have s34 := HF4.out.size
  have nk : ∀ k, (k < W.heap.size ∨ W4.heap.size ≤ k) → ¬ (False ∨ k = (⟨W.heap.size + 1 + 1, 0, none⟩ : Addr).block ∨ k = (⟨W.heap.size + 1 + 1, 1, none⟩ : Addr).block) := by
    rintro k hk (h3 | h3 | h3)
    · exact h3
    · have : k = W.heap.size + 1 + 1 := h3
      omega
    · have : k = W.heap.size + 1 + 1 := h3
      omega
  have hss2 := HSSL.out
  have g5 : ∀ k, (Value.slice a' S.length c').ownBlock = some k → W4.heap.size ≤ k := HG5.out
  refine bodyPost_ret (results_two2 Try.results16 _ _ _ R7 rfl rfl) rfl ⟨Cs4, .slice none 0 0, a', c', none, 0, SS, [], by rw [hss2]; rfl, ⟨?_, ?_, ?_, ?_, ?_, ?_, ?_⟩, hss2, by simp, F07⟩
  · exact HD4.out.fr F57 (nk b (.inl hsz.1)) (nk gs (.inl hsz.2.1)) (by simp [Value.ownBlock])
  · refine ⟨ownsRow_fr HR5.out.sx A7 (fun k hk h3 => nk k (.inr (g5 k (by rw [← hss2]; exact hk))) (.inr h3)), World.ownsRow_nil _ _ _ _⟩
  · intro k hk
    have := g5 k (by rw [← hss2]; exact hk)
    exact ⟨by omega, by omega, by simp [Value.ownBlock]⟩
  · intro k hk; simp [Value.ownBlock] at hk
  · exact ⟨HH.out.lo.1, HH.out.lo.2.1, by simp [Value.ownBlock]⟩
  · rw [hss2]; exact HH.out.n1
  · rw [hss2]; exact HH.out.n2

end Go.Proofs.Ytdbchicanlglhaa
