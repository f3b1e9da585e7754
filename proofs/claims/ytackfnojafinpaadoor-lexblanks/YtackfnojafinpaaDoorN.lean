/- Two texts with a blank between: the law's walk. -/
import Derived.Test.YtackfnojafinpaaDoorM
namespace Go.Proofs.YtackfnojafinpaaDoor
open Go.RowKit
set_option linter.unusedVariables false

/-- What Tokens answers, whatever the text. -/
def Out (w : World) (s : ByteArray) (e : Ending) (w' : World) : Prop :=
  (∃ T v, s.size ≤ 4096 ∧ Lex 0 s.data.toList (.ok T) ∧ e = .returned (.tuple #[v, .agg #[.int .i64 0, .int .i64 0]]) ∧ OwnT w' v T ∧ T.length ≤ s.size) ∨
  ((s.size ≤ 4096 → ∃ q, Lex 0 s.data.toList (.bad q)) ∧ ∃ c p : Int, c ≠ 0 ∧ e = .returned (.tuple #[.slice none 0 0, .agg #[.int .i64 c, .int .i64 p]]))
theorem tokens_any (s : ByteArray) (w : World) (hm : s.size ≤ 4503599627370496) (he : Errs w) :
    Calls Tryd.prog 9 #[.string s] w fun e w' => Out w s e w' ∧ Fr w w' (fun _ => False) := by
  by_cases hs : s.size ≤ 4096
  · refine (tokens_short s w hs he).mono ?_
    rintro e w' ⟨h, hf⟩
    refine ⟨?_, hf⟩
    rcases h with ⟨T, v, hl, rfl, ho, hlen, _⟩ | ⟨p, _, hl, rfl⟩
    · exact .inl ⟨T, v, hs, hl, rfl, ho, hlen⟩
    · exact .inr ⟨fun _ => ⟨p, hl⟩, 140, p, by omega, rfl⟩
  · refine (tokens_long s w (by omega) hm).mono ?_
    rintro e w' ⟨rfl, hf⟩
    exact ⟨.inr ⟨fun h => absurd h hs, 2, 4096, by omega, rfl⟩, hf⟩
theorem tokens_weak (s : ByteArray) (w : World) (hm : s.size ≤ 4503599627370496) (he : Errs w) :
    Calls Tryd.prog 9 #[.string s] w fun e w' => (∃ a n c k p, e = .returned (.tuple #[.slice a n c, .agg #[.int .i64 k, .int .i64 p]])) ∧ Fr w w' (fun _ => False) := by
  refine (tokens_any s w hm he).mono ?_
  rintro e w' ⟨h, hf⟩
  refine ⟨?_, hf⟩
  rcases h with ⟨T, v, _, _, rfl, ho, _⟩ | ⟨_, c, p, _, rfl⟩
  · obtain ⟨a, c, rfl, _⟩ := ho.shape
    exact ⟨_, _, _, _, _, rfl⟩
  · exact ⟨_, _, _, _, _, rfl⟩
theorem tokens_okay (s : ByteArray) (w : World) (hm : s.size ≤ 4096) (he : Errs w) (T : List Tok) (hl : Lex 0 s.data.toList (.ok T)) :
    Calls Tryd.prog 9 #[.string s] w fun e w' => (∃ v, e = .returned (.tuple #[v, .agg #[.int .i64 0, .int .i64 0]]) ∧ OwnT w' v T) ∧ Fr w w' (fun _ => False) := by
  refine (tokens_short s w hm he).mono ?_
  rintro e w' ⟨h, hf⟩
  refine ⟨?_, hf⟩
  rcases h with ⟨T2, v, hl2, rfl, ho, _, _⟩ | ⟨p, _, hl2, _⟩
  · have e := hl2.unique hl
    injection e with e
    subst e
    exact ⟨v, rfl, ho⟩
  · exact absurd (hl2.unique hl) (by simp)
theorem cat_toList (a b : ByteArray) : (a ++ ⟨#[32]⟩ ++ b).data.toList = a.data.toList ++ 32 :: b.data.toList := by
  simp
theorem cat_size (a b : ByteArray) : (a ++ ⟨#[32]⟩ ++ b).size = a.size + 1 + b.size := by
  have h := congrArg List.length (cat_toList a b)
  simp only [List.length_append, List.length_cons] at h
  have e1 : (a ++ ⟨#[32]⟩ ++ b).data.toList.length = (a ++ ⟨#[32]⟩ ++ b).size := rfl
  have e2 : a.data.toList.length = a.size := rfl
  have e3 : b.data.toList.length = b.size := rfl
  omega
theorem newTwo (w : World) (x y : Value) (t : TypeId) : Two (w.alloc (.cells #[x, y] t)) w.heap.size x y := two_of (heap_alloc_new w _)
set_option maxRecDepth 100000 in
set_option maxHeartbeats 4000000 in
theorem joins_walk (a b : ByteArray) (w : World) (he : Errs w) (ha : a.size ≤ 140737488351232) (hb : b.size ≤ 140737488351232) :
    Calls Tryd.prog 5 #[.string a, .string b] w fun e w' => e = .returned (.bool true) ∧ Fr w w' (fun _ => False) := by
  have haw := awake_any w he
  have HE := hide he
  have hcs := cat_size a b
  have hcz : (a ++ ⟨#[32]⟩ ++ b).size ≤ 4503599627370496 := by rw [hcs]; omega
  have HZ := hide (fun W h => tokens_weak (a ++ ⟨#[32]⟩ ++ b) W hcz h)
  have HC := hide hcs
  clear he hcs hcz
  go_enter Tryd.func5, Tryd.ntmps5
  go_wp2_with fail
  refine haw.mono ?_
  rintro e W0 ⟨rfl, hf⟩
  have HF0 := hide hf
  have HE0 := hide (HE.out.fr hf (fun h => h))
  clear hf haw HE
  go_wp2_with fail
  refine (tokens_any a W0 (by omega) HE0.out).mono ?_
  rintro e W1 ⟨h, hf⟩
  have HF1 := hide ((HF0.out.trans hf).mono (Y := fun _ => False) (by simp))
  have HE1 := hide (HE0.out.fr hf (fun h => h))
  clear hf HE0 HF0
  rcases h with ⟨X, v, ha2, hlx, rfl, hox, hlenx⟩ | ⟨_, c, p, hc0, rfl⟩
  · go_wp2_with fail
    refine (tokens_any b _ (by omega) (HE1.out.fr (Fr.alloc _ _ (fun _ => False)) (fun h => h))).mono ?_
    rintro e W2 ⟨h, hf⟩
    have HF2 := hide (((HF1.out.trans (Fr.alloc _ _ (fun _ => False))).trans hf).mono (Y := fun _ => False) (by simp))
    have HT2 := hide ((newTwo W1 (.int .i64 0) (.int .i64 0) 26).fr hf (fun h => h))
    have HE2 := hide ((HE1.out.fr (Fr.alloc _ _ (fun _ => False)) (fun h => h)).fr hf (fun h => h))
    have HOX2 := hide ((hox.fr (Fr.alloc _ _ (fun _ => False)) (fun _ _ h => h)).fr hf (fun _ _ h => h))
    clear hf hox
    obtain ⟨ax, cx, rfl, hcx, _⟩ := HOX2.out.shape
    rcases h with ⟨Y, v, hb2, hly, rfl, hoy, hleny⟩ | ⟨_, c, p, hc0, rfl⟩
    · obtain ⟨ay, cy, rfl, hcy, _⟩ := hoy.shape
      by_cases hsum : a.size + b.size ≤ 4095
      · have hz := lex_joins parts32 _ _ X Y hlx hly
        have hcz2 : (a ++ ⟨#[32]⟩ ++ b).size ≤ 4096 := by rw [HC.out]; omega
        have hlz : Lex 0 (a ++ ⟨#[32]⟩ ++ b).data.toList (.ok (X ++ Y.map (Tok.shift (a.size + 1)))) := by rw [cat_toList]; exact hz
        have HZ2 := hide (fun W h => tokens_okay (a ++ ⟨#[32]⟩ ++ b) W hcz2 h _ hlz)
        have HPY := hide (hly.pos rfl)
        clear hz hcz2 hlz hlx hly HZ
        go_wp2_with fail
        refine (HZ2.out _ (HE2.out.fr (Fr.alloc _ _ (fun _ => False)) (fun h => h))).mono ?_
        rintro e W3 ⟨⟨v, rfl, hoz⟩, hf⟩
        have HF3 := hide (((HF2.out.trans (Fr.alloc _ _ (fun _ => False))).trans hf).mono (Y := fun _ => False) (by simp))
        have HT3 := hide ((HT2.out.fr (Fr.alloc _ _ (fun _ => False)) (fun h => h)).fr hf (fun h => h))
        have HG3 := hide ((newTwo W2 (.int .i64 0) (.int .i64 0) 26).fr hf (fun h => h))
        have HX3 := hide ((HOX2.out.fr (Fr.alloc _ _ (fun _ => False)) (fun _ _ h => h)).fr hf (fun _ _ h => h))
        have HY3 := hide ((hoy.fr (Fr.alloc _ _ (fun _ => False)) (fun _ _ h => h)).fr hf (fun _ _ h => h))
        obtain ⟨az, cz, rfl, hcz, _⟩ := hoz.shape
        have HZ3 := hide hoz
        have hnz : (X ++ Y.map (Tok.shift (a.size + 1))).length = X.length + Y.length := by simp
        rw [hnz] at *
        have d0 := HT3.out.1
        have g0 := HG3.out.1
        have hl3 := World.block_lt_of_cell? _ _ d0
        have hl4 := World.block_lt_of_cell? _ _ g0
        simp only at hl3 hl4
        clear hf hoz hoy hnz HZ2 HT2 HE2 HOX2 HT3 HG3
        go_wp2
        clear d0 g0 hl3 hl4
        have HX4 := hide (HX3.out.fr (Fr.alloc W3 (.cells #[.int .i64 0, .int .i64 0] 26) (fun _ => False)) (fun _ _ h => h))
        have HY4 := hide (HY3.out.fr (Fr.alloc W3 (.cells #[.int .i64 0, .int .i64 0] 26) (fun _ => False)) (fun _ _ h => h))
        have HZ4 := hide (HZ3.out.fr (Fr.alloc W3 (.cells #[.int .i64 0, .int .i64 0] 26) (fun _ => False)) (fun _ _ h => h))
        have HF4 := hide ((HF3.out.trans (Fr.alloc W3 (.cells #[.int .i64 0, .int .i64 0] 26) (fun _ => False))).mono (Y := fun _ => False) (by simp))
        generalize W3.alloc (.cells #[.int .i64 0, .int .i64 0] 26) = W4 at *
        clear HX3 HY3 HZ3 HF3
        go_loopw [73] (fun i wr => ∃ k : Nat, i = .int .i64 k ∧ k ≤ X.length + Y.length ∧ Fr W4 wr (fun _ => False)) (fun i _ => X.length + Y.length - (intOf i).toNat)
        case atStart => exact ⟨0, rfl, by omega, Fr.refl _ _⟩
        case round =>
          rename World => W
          obtain ⟨k, rfl, hk, hfr⟩ := hrel
          have HFR := hide hfr
          by_cases hlt : k < X.length + Y.length
          · by_cases hkx : k < X.length
            · obtain ⟨t, ht⟩ : ∃ t, X[k]? = some t := ⟨_, List.getElem?_eq_getElem hkx⟩
              obtain ⟨gx, rfl, x0, x1, x2, x3⟩ := HX4.out.toks.get hfr k t ht
              obtain ⟨gz, rfl, z0, z1, z2, z3⟩ := HZ4.out.toks.get hfr k t (by rw [List.getElem?_append_left hkx]; exact ht)
              have lx := World.block_lt_of_cell? _ _ x0
              have lz := World.block_lt_of_cell? _ _ z0
              simp only at lx lz
              have hlti : (k : Int) < (X.length : Int) + (Y.length : Int) := by omega
              clear hfr ht
              obtain ⟨kd, tx, nm, ps⟩ := t
              simp only at x0 x1 x2 x3 z0 z1 z2 z3
              generalize strOf tx = u at *
              go_wp2
              exact ⟨⟨k + 1, by go_num, by omega, (HFR.out.trans up_two).mono (by simp)⟩, by simp [intOf]; omega⟩
            · obtain ⟨j, rfl⟩ : ∃ j, k = X.length + j := ⟨k - X.length, by omega⟩
              have hjy : j < Y.length := by omega
              obtain ⟨t, ht⟩ : ∃ t, Y[j]? = some t := ⟨_, List.getElem?_eq_getElem hjy⟩
              obtain ⟨gy, rfl, x0, x1, x2, x3⟩ := HY4.out.toks.get hfr j t ht
              obtain ⟨gz, rfl, z0, z1, z2, z3⟩ := HZ4.out.toks.get hfr (X.length + j) (t.shift (a.size + 1)) (by rw [List.getElem?_append_right (by omega), Nat.add_sub_cancel_left, List.getElem?_map, ht]; rfl)
              have lx := World.block_lt_of_cell? _ _ x0
              have lz := World.block_lt_of_cell? _ _ z0
              simp only at lx lz
              have hpos := HPY.out t (List.mem_of_getElem? ht)
              have hpos2 : t.pos < b.size := by simpa using hpos
              have hlti : (X.length : Int) + (j : Int) < (X.length : Int) + (Y.length : Int) := by omega
              have hltx : ¬ (X.length : Int) + (j : Int) < (X.length : Int) := by omega
              clear hfr ht hpos
              obtain ⟨kd, tx, nm, ps⟩ := t
              have z3 : W.cell? ⟨gz, (X.length + j) * 4 + 3, none⟩ = some (.int .i64 ((ps : Int) + ((a.size : Int) + 1))) := by
                rw [z3]; simp only [Tok.shift]; congr 2
              simp only [Tok.shift] at x0 x1 x2 x3 z0 z1 z2 hpos2
              generalize strOf tx = u at *
              go_wp2
              exact ⟨⟨X.length + j + 1, by go_num, by omega, (HFR.out.trans up_two).mono (by simp)⟩, by simp [intOf]; omega⟩
          · have hlti : ¬ (k : Int) < (X.length : Int) + (Y.length : Int) := by omega
            clear hfr
            go_wp2
            go_ret
            exact ⟨rfl, (HF4.out.trans HFR.out).mono (by simp)⟩
      · have hsi : (4095 : Int) < (a.size : Int) + (b.size : Int) := by omega
        clear hlx hly hoy
        go_wp2_with fail
        refine (HZ.out _ (HE2.out.fr (Fr.alloc _ _ (fun _ => False)) (fun h => h))).mono ?_
        rintro e W3 ⟨⟨a3, n3, c3, k3, p3, rfl⟩, hf⟩
        have HF3 := hide (((HF2.out.trans (Fr.alloc _ _ (fun _ => False))).trans hf).mono (Y := fun _ => False) (by simp))
        have HT3 := hide ((HT2.out.fr (Fr.alloc _ _ (fun _ => False)) (fun h => h)).fr hf (fun h => h))
        have HG3 := hide ((newTwo W2 (.int .i64 0) (.int .i64 0) 26).fr hf (fun h => h))
        have d0 := HT3.out.1
        have g0 := HG3.out.1
        have hl3 := World.block_lt_of_cell? _ _ d0
        have hl4 := World.block_lt_of_cell? _ _ g0
        simp only at hl3 hl4
        clear hf
        go_wp2
        all_goals go_ret
        all_goals exact ⟨by first | rfl | simp, (HF3.out.trans (Fr.alloc _ _ (fun _ => False))).mono (by simp)⟩
    · go_wp2_with fail
      refine (HZ.out _ (HE2.out.fr (Fr.alloc _ _ (fun _ => False)) (fun h => h))).mono ?_
      rintro e W3 ⟨⟨a3, n3, c3, k3, p3, rfl⟩, hf⟩
      have HF3 := hide (((HF2.out.trans (Fr.alloc _ _ (fun _ => False))).trans hf).mono (Y := fun _ => False) (by simp))
      have HT3 := hide ((HT2.out.fr (Fr.alloc _ _ (fun _ => False)) (fun h => h)).fr hf (fun h => h))
      have HG3 := hide ((newTwo W2 (.int .i64 c) (.int .i64 p) 26).fr hf (fun h => h))
      have d0 := HT3.out.1
      have g0 := HG3.out.1
      have hl3 := World.block_lt_of_cell? _ _ d0
      have hl4 := World.block_lt_of_cell? _ _ g0
      simp only at hl3 hl4
      clear hf
      go_wp2
      all_goals go_ret
      all_goals exact ⟨by first | rfl | simp, (HF3.out.trans (Fr.alloc _ _ (fun _ => False))).mono (by simp)⟩
  · go_wp2_with fail
    refine (tokens_weak b _ (by omega) (HE1.out.fr (Fr.alloc _ _ (fun _ => False)) (fun h => h))).mono ?_
    rintro e W2 ⟨⟨a2, n2, c2, k2, p2, rfl⟩, hf⟩
    have HF2 := hide (((HF1.out.trans (Fr.alloc _ _ (fun _ => False))).trans hf).mono (Y := fun _ => False) (by simp))
    have HT2 := hide ((newTwo W1 (.int .i64 c) (.int .i64 p) 26).fr hf (fun h => h))
    have HE2 := hide ((HE1.out.fr (Fr.alloc _ _ (fun _ => False)) (fun h => h)).fr hf (fun h => h))
    clear hf
    go_wp2_with fail
    refine (HZ.out _ (HE2.out.fr (Fr.alloc _ _ (fun _ => False)) (fun h => h))).mono ?_
    rintro e W3 ⟨⟨a3, n3, c3, k3, p3, rfl⟩, hf⟩
    have HF3 := hide (((HF2.out.trans (Fr.alloc _ _ (fun _ => False))).trans hf).mono (Y := fun _ => False) (by simp))
    have HT3 := hide ((HT2.out.fr (Fr.alloc _ _ (fun _ => False)) (fun h => h)).fr hf (fun h => h))
    have HG3 := hide ((newTwo W2 (.int .i64 k2) (.int .i64 p2) 26).fr hf (fun h => h))
    have d0 := HT3.out.1
    have g0 := HG3.out.1
    have hl3 := World.block_lt_of_cell? _ _ d0
    have hl4 := World.block_lt_of_cell? _ _ g0
    simp only at hl3 hl4
    clear hf
    go_wp2
    all_goals go_ret
    all_goals exact ⟨by first | rfl | simp, (HF3.out.trans (Fr.alloc _ _ (fun _ => False))).mono (by simp)⟩
end Go.Proofs.YtackfnojafinpaaDoor
