/- The walk of awake. -/
import Derived.Test.YtackfnojafinpaaDoorJ
namespace Go.Proofs.YtackfnojafinpaaDoor
open Go.RowKit
set_option linter.unusedVariables false

theorem Lex.take {o : Nat} {b : UInt8} {l : List UInt8} (x : Bit) {ts : List Tok} (hg : gapB b = false) (h1 : oneR (b :: l) = some x) (h2 : Lex (o + x.len) ((b :: l).drop x.len) (.ok ts)) : Lex o (b :: l) (.ok (x.tok o :: ts)) := Lex.tok hg h1 h2
theorem lex_awake : Lex 0 [97, 98, 32, 60, 61, 32, 39, 105, 116, 39, 39, 115, 39] (.ok [⟨1, [65, 66], 0, 0⟩, ⟨4, [60, 61], 0, 3⟩, ⟨3, [105, 116, 39, 115], 0, 6⟩]) := by
  have h3 : Lex 6 [39, 105, 116, 39, 39, 115, 39] (.ok [⟨3, [105, 116, 39, 115], 0, 6⟩]) := Lex.take ⟨3, [105, 116, 39, 115], 0, 7⟩ (by decide) (by rfl) (.nil 13)
  have h2 : Lex 3 [60, 61, 32, 39, 105, 116, 39, 39, 115, 39] (.ok [⟨4, [60, 61], 0, 3⟩, ⟨3, [105, 116, 39, 115], 0, 6⟩]) := Lex.take ⟨4, [60, 61], 0, 2⟩ (by decide) (by rfl) (.gap (by decide) h3)
  exact Lex.take ⟨1, [65, 66], 0, 2⟩ (by decide) (by rfl) (.gap (by decide) h2)
theorem tokens_awake (w : World) (he : Errs w) :
    Calls Tryd.prog 9 #[.string ⟨#[97, 98, 32, 60, 61, 32, 39, 105, 116, 39, 39, 115, 39]⟩] w fun e w' => ∃ g c, e = .returned (.tuple #[.slice (some ⟨g, 0, none⟩) 3 c, .agg #[.int .i64 0, .int .i64 0]]) ∧ g < w'.heap.size ∧ w'.cell? ⟨g, 1, none⟩ = some (.string ⟨#[65, 66]⟩) ∧ w'.cell? ⟨g, 5, none⟩ = some (.string ⟨#[60, 61]⟩) ∧ w'.cell? ⟨g, 9, none⟩ = some (.string ⟨#[105, 116, 39, 115]⟩) ∧ w'.cell? ⟨g, 11, none⟩ = some (.int .i64 6) ∧ 3 ≤ c ∧ Fr w w' (fun _ => False) := by
  refine (tokens_short _ w (by decide) he).mono ?_
  rintro e w' ⟨h, hf⟩
  rcases h with ⟨T, v, hl, rfl, ho, hlen, _⟩ | ⟨p, _, hl, _⟩
  · have e := hl.unique lex_awake
    injection e with e
    subst e
    obtain ⟨a, c, rfl, hc, _⟩ := ho.shape
    obtain ⟨g, rfl, _, h1, _, _⟩ := ho.toks.get (Fr.refl _ _) 0 _ rfl
    obtain ⟨g', hg', _, h2, _, _⟩ := ho.toks.get (Fr.refl _ _) 1 _ rfl
    obtain ⟨g'', hg'', _, h3, _, h4⟩ := ho.toks.get (Fr.refl _ _) 2 _ rfl
    simp only [Option.some.injEq, Addr.mk.injEq, and_true] at hg' hg''
    subst hg' hg''
    exact ⟨g, c, rfl, World.block_lt_of_cell? _ _ h1, h1, h2, h3, h4, hc, hf⟩
  · exact absurd (hl.unique lex_awake) (by simp)
set_option maxHeartbeats 2000000 in
theorem awake_any (w : World) (he : Errs w) : Calls Tryd.prog 8 #[] w fun e w' => e = .returned (.bool true) ∧ Fr w w' (fun _ => False) := by
  have ht := tokens_awake w he
  clear he
  go_enter Tryd.func8, Tryd.ntmps8
  go_wp2_with (go_at_call 9; refine ht.mono ?_; rintro e W ⟨g, c, rfl, hg, c1, c5, c9, c11, hc, hf⟩; have HF := hide hf; clear hf)
  go_ret
  exact ⟨rfl, (HF.out.trans (Fr.alloc _ _ (fun _ => False))).mono (by simp)⟩
end Go.Proofs.YtackfnojafinpaaDoor
