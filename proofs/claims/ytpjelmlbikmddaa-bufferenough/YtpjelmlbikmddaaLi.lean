/- A log and its stream: Open, Append, Force, Flush. -/
import Derived.Test.YtpjelmlbikmddaaPl
namespace Go.Proofs.Ytpjelmlbikmddaa
open Go.RowKit
set_option maxRecDepth 100000
set_option linter.unusedVariables false

theorem wipes_mem (C B : List UInt8) (first : Nat) : ∀ c, ∀ p ∈ wipes C B first c, ∃ k, k < c ∧ p = (first + k, chunk C k)
  | 0, p, hp => by simp [wipes] at hp
  | c + 1, p, hp => by
    rw [wipes, List.mem_append] at hp
    rcases hp with hp | hp
    · obtain ⟨k, h1, h2⟩ := wipes_mem C B first c p hp
      exact ⟨k, by omega, h2⟩
    · split at hp
      · simp at hp
      · simp at hp; exact ⟨c, by omega, hp⟩
theorem forced_mem (T : List UInt8) (base c : Nat) : ∀ p ∈ forced T base (List.range c), ∃ k, k < c ∧ p = (base + k, padC T k) := by
  induction c with
  | zero => intro p hp; simp [forced] at hp
  | succ c ih =>
    intro p hp
    rw [List.range_succ, forced_snoc, List.mem_append] at hp
    rcases hp with hp | hp
    · obtain ⟨k, h1, h2⟩ := ih p hp; exact ⟨k, by omega, h2⟩
    · simp at hp; exact ⟨c, by omega, hp⟩

/-- A log: its box, its tail's block, its records, its bytes, how much is durable, the last sum. -/
structure LogIn (w : World) (g b gs first count : Nat) (tb : Option Nat) (R : List (Nat × List UInt8)) (St : List UInt8) (dur sum : Nat) : Prop where
  log : ∃ ta tc, LogAt w g b first count ta (St.length - dur / 256 * 256) tc dur sum ∧ OwnB w (.slice ta (St.length - dur / 256 * 256) tc) (St.drop (dur / 256 * 256)) ∧ (Value.slice ta (St.length - dur / 256 * 256) tc).ownBlock = tb
  chain : Chain R St sum
  dle : dur ≤ St.length
  fits : St.length ≤ count * 256
  cnt : count ≤ 4096
  gb : g ≠ b
  gg : g ≠ gs
  tg : tb ≠ some g
  tbb : tb ≠ some b
  tgs : tb ≠ some gs
theorem LogIn.fr {w w' : World} {X : Nat → Prop} {g b gs first count : Nat} {tb : Option Nat} {R : List (Nat × List UInt8)} {St : List UInt8} {dur sum : Nat} (h : LogIn w g b gs first count tb R St dur sum) (hf : Fr w w' X) (h1 : ¬ X g) (h2 : ∀ q, tb = some q → ¬ X q) : LogIn w' g b gs first count tb R St dur sum := by
  obtain ⟨ta, tc, h3, h4, h5⟩ := h.log
  exact ⟨⟨ta, tc, h3.fr hf h1, h4.fr hf (fun q hq => h2 q (h5 ▸ hq)), h5⟩, h.chain, h.dle, h.fits, h.cnt, h.gb, h.gg, h.tg, h.tbb, h.tgs⟩
theorem LogIn.lt {w : World} {g b gs first count : Nat} {tb : Option Nat} {R : List (Nat × List UInt8)} {St : List UInt8} {dur sum : Nat} (h : LogIn w g b gs first count tb R St dur sum) : g < w.heap.size ∧ ∀ q, tb = some q → q < w.heap.size := by
  obtain ⟨ta, tc, h3, h4, h5⟩ := h.log
  exact ⟨World.block_lt_of_cell? w _ h3.c0, fun q hq => (h4.lt q (h5.trans hq)).2⟩

theorem open_in {w : World} {b gs cs : Nat} {Cs : Array Value} {pv : Value} {S : List (List UInt8)} {L : List (Nat × List UInt8)} (h : DiskIs w b gs cs Cs pv S L) (first count : Nat) (hc1 : 1 ≤ count) (hfc : first + count ≤ S.length) (hS4 : S.length ≤ 4096) (hL : L.length ≤ 1048576) :
    Calls Try.prog 26 #[.pointer (some ⟨b, 0, none⟩), .int .i64 (first : Int), .int .i64 (count : Int)] w fun x w' => ∃ v M e s g tb Cs' S', x = .returned (.tuple #[.pointer (some ⟨g, 0, none⟩), v, .int .i64 0]) ∧ Took (bytesOf S L first count) (plainR M) e s ∧ recAt (bytesOf S L first count) e s = none ∧ RecsAt w' w.heap.size v M ∧
      LogIn w' g b gs first count tb (plainR M) ((bytesOf S L first count).take e) e s ∧ DiskIs w' b gs cs Cs' (.slice none 0 0) S' [] ∧ S'.length = S.length ∧ (∀ k, k < count → S'.getD (first + k) [] = cellL ((bytesOf S L first count).take e) k) ∧ (∀ n, n < S.length → (n < first ∨ first + count ≤ n) → S'.getD n [] = latestOf S L n) ∧
      w.heap.size ≤ g ∧ v.ownBlock ≠ some g ∧ (∀ q, tb = some q → w.heap.size ≤ q ∧ v.ownBlock ≠ some q) ∧ Fr w w' (fun k => k = b ∨ k = gs ∨ pv.ownBlock = some k) := by
  refine (open_any h first count hc1 hfc hS4 hL).mono ?_
  rintro x w' ⟨v, M, e, s, g, ta, tc, Cs', rfl, h1, h2, h3, h4, h5, h6, h7, h8, h9, h10⟩
  have hbl := h.bl
  have hBl : (bytesOf S L first count).length = count * 256 := bytesOf_length h first count hfc
  obtain ⟨hB1, hB2⟩ := bytesOf_chunk S L first count (fun k hk => h.latest_length (first + k) (by omega))
  obtain ⟨B, hB⟩ : ∃ B, B = bytesOf S L first count := ⟨_, rfl⟩
  rw [← hB] at h1 h2 h5 h6 hBl hB1 hB2 ⊢
  have hle := h1.le
  have hel : (B.take e).length = e := by rw [List.length_take]; omega
  have hmod : (B.take e).length - e / 256 * 256 = e % 256 := by rw [hel]; omega
  have hdt : (B.take e).drop (e / 256 * 256) = (B.drop (e / 256 * 256)).take (e % 256) := by
    rw [List.drop_take, show e - e / 256 * 256 = e % 256 by omega]
  have hCl : (cleanB B e).length = count * 256 := by rw [cleanB_pad B e hle.1]; simp [length_zeros]; omega
  have hlw : ∀ p ∈ L ++ wipes (cleanB B e) B first count, p.2.length = 256 ∧ p.1 < S.length := by
    intro p hp
    rcases List.mem_append.1 hp with hp | hp
    · exact h.lenw p hp
    · obtain ⟨k, hk, rfl⟩ := wipes_mem _ _ _ _ p hp
      refine ⟨?_, by show first + k < S.length; omega⟩
      show (chunk (cleanB B e) k).length = 256
      rw [chunk_cell _ k count hCl hk, cellL_length]
  have hlat : ∀ n, n < S.length → (laysTo S (L ++ wipes (cleanB B e) B first count) (fun _ => some 256) (L ++ wipes (cleanB B e) B first count).length).getD n [] = if first ≤ n ∧ n < first + count then chunk (cleanB B e) (n - first) else latestOf S L n := fun n hn => by
    rw [← latest_none, latest_sync S _ h.lens hlw n hn, wipes_latest S L _ B first count hB2 count (Nat.le_refl _) n]
  refine ⟨v, M, e, s, g, _, Cs', _, rfl, h1, h2, h3, ⟨⟨ta, tc, ?_, ?_, rfl⟩, h1.chain, by rw [hel]; exact Nat.le_refl _, by rw [hel]; omega, by omega, by omega, by omega, ?_, ?_, ?_⟩, h6, laysTo_length _ _ _ _, ?_, ?_, h7, h8, ?_, h10⟩
  · rw [hmod]; exact h4
  · rw [hmod, hdt]; exact h5
  · rw [hmod]; exact fun hq => (h9 g hq).2.2 rfl
  · rw [hmod]; exact fun hq => by have := (h9 b hq).1; omega
  · rw [hmod]; exact fun hq => by have := (h9 gs hq).1; omega
  · intro k hk
    rw [hlat (first + k) (by omega), if_pos (by omega), show first + k - first = k by omega, chunk_cell _ k count hCl hk, cleanB_pad B e hle.1, cellL_pad]
  · intro n hn hr
    rw [hlat n hn, if_neg (by omega)]
  · intro q hq
    rw [hmod] at hq
    exact ⟨(h9 q hq).1, (h9 q hq).2.1⟩
/-- What lies there is taken whole. -/
theorem opened {S : List (List UInt8)} {L : List (Nat × List UInt8)} {first count : Nat} {R : List (Nat × List UInt8)} {St : List UInt8} {s : Nat} (hc : Chain R St s) (hf : St.length ≤ count * 256) (hs : ∀ k, k < count → latestOf S L (first + k) = cellL St k)
    {M : List (Nat × List UInt8)} {e s' : Nat} (h1 : Took (bytesOf S L first count) M e s') (h2 : recAt (bytesOf S L first count) e s' = none) : M = R ∧ e = St.length ∧ s' = s ∧ (bytesOf S L first count).take e = St := by
  have hB : bytesOf S L first count = St ++ zeros (count * 256 - St.length) := bytesOf_eq _ _ _ _ _ (by simp [length_zeros]; omega) (fun k hk => by rw [cellL_pad]; exact hs k hk)
  rw [hB] at h1 h2 ⊢
  obtain ⟨r1, r2, r3⟩ := h1.unique h2 (hc.took _) (recAt_zeros _ _ _)
  exact ⟨r1, r2, r3, by rw [r2, List.take_left]⟩

/-- What Force leaves behind, told by streams. -/
def ForcedTo (w : World) (b gs cs : Nat) (Cs : Array Value) (S : List (List UInt8)) (g first count : Nat) (tb : Option Nat) (R : List (Nat × List UInt8)) (St : List UInt8) (dur sum : Nat) (mark : Int) (w' : World) : Prop :=
  ((mark ≤ dur ∨ dur = St.length) ∧ Fr w w' (fun _ => False)) ∨
  ((dur : Int) < mark ∧ dur < St.length ∧ ∃ Cs' S' tb', DiskIs w' b gs cs Cs' (.slice none 0 0) S' [] ∧ S'.length = S.length ∧ LogIn w' g b gs first count tb' R St St.length sum ∧ (∀ k, k < count → S'.getD (first + k) [] = cellL St k) ∧ (∀ n, n < S.length → (n < first ∨ first + count ≤ n) → S'.getD n [] = S.getD n []) ∧
    (∀ q, tb' = some q → w.heap.size ≤ q) ∧ Fr w w' (fun k => k = b ∨ k = gs ∨ k = g))
theorem forced_to {w : World} {b gs cs : Nat} {Cs : Array Value} {S : List (List UInt8)} (h : DiskIs w b gs cs Cs (.slice none 0 0) S []) {g first count : Nat} {tb : Option Nat} {R : List (Nat × List UInt8)} {St : List UInt8} {dur sum : Nat} (hl : LogIn w g b gs first count tb R St dur sum)
    (hS : ∀ k, k < count → S.getD (first + k) [] = cellL (St.take dur) k) (hfc : first + count ≤ S.length) (mark : Int) (x : Ending) (w' : World)
    (hp : ForcePost w b gs cs (.slice none 0 0) S [] (St.drop (dur / 256 * 256)) g first count (St.length - dur / 256 * 256) dur sum mark St.length x w') : x = .returned (.tuple #[]) ∧ ForcedTo w b gs cs Cs S g first count tb R St dur sum mark w' := by
  obtain ⟨r1, r2⟩ := hp
  refine ⟨r1, ?_⟩
  have hd := hl.dle
  have hft := hl.fits
  have hbl := h.bl
  have hgl := hl.lt.1
  rcases r2 with ⟨r2, r3⟩ | ⟨r2, r3, Cs', ta', tc', r4, r5, r6, r7, r8⟩
  · exact .inl ⟨r2, r3⟩
  · have hlt : dur < St.length := by omega
    have hmod : St.length - St.length / 256 * 256 = St.length % 256 := by omega
    have hdr : (St.drop (dur / 256 * 256)).drop (St.length / 256 * 256 - dur / 256 * 256) = St.drop (St.length / 256 * 256) := by
      rw [List.drop_drop, show dur / 256 * 256 + (St.length / 256 * 256 - dur / 256 * 256) = St.length / 256 * 256 by omega]
    rw [hdr] at r6
    simp only [List.nil_append] at r4
    obtain ⟨N, hN⟩ : ∃ N, N = (St.length - dur / 256 * 256 + 255) / 256 := ⟨_, rfl⟩
    rw [← hN] at r4
    have hlw : ∀ p ∈ forced (St.drop (dur / 256 * 256)) (first + dur / 256) (List.range N), p.2.length = 256 ∧ p.1 < S.length := by
      intro p hp
      obtain ⟨k, hk, rfl⟩ := forced_mem _ _ _ p hp
      exact ⟨padC_length _ _, by show first + dur / 256 + k < S.length; omega⟩
    have hlat : ∀ n, n < S.length → (laysTo S (forced (St.drop (dur / 256 * 256)) (first + dur / 256) (List.range N)) (fun _ => some 256) (forced (St.drop (dur / 256 * 256)) (first + dur / 256) (List.range N)).length).getD n [] = if first + dur / 256 ≤ n ∧ n < first + dur / 256 + N then cellL (St.drop (dur / 256 * 256)) (n - (first + dur / 256)) else S.getD n [] := fun n hn => by
      rw [← latest_none, latest_sync S _ h.lens hlw n hn]
      have := forced_latest S [] (St.drop (dur / 256 * 256)) (first + dur / 256) N n
      rw [List.nil_append, latest_none] at this
      exact this
    refine .inr ⟨r2, hlt, Cs', _, _, r4, laysTo_length _ _ _ _, ⟨⟨ta', tc', by rw [hmod]; exact r5, by rw [hmod]; exact r6, rfl⟩, hl.chain, Nat.le_refl _, hft, hl.cnt, hl.gb, hl.gg, ?_, ?_, ?_⟩, ?_, ?_, ?_, ?_⟩
    · rw [hmod]; exact fun hq => by have := r7 _ hq; omega
    · rw [hmod]; exact fun hq => by have := r7 _ hq; omega
    · rw [hmod]; exact fun hq => by have := r7 _ hq; omega
    · intro k hk
      rw [hlat (first + k) (by omega)]
      by_cases h1 : first + dur / 256 ≤ first + k ∧ first + k < first + dur / 256 + N
      · rw [if_pos h1, cellL_drop, show dur / 256 + (first + k - (first + dur / 256)) = k by omega]
      · rw [if_neg h1, hS k hk, cellL_take]
        omega
    · intro n hn hr
      rw [hlat n hn, if_neg (by omega)]
    · intro q hq
      rw [hmod] at hq
      exact r7 q hq
    · exact r8.mono (by
        intro k _ h1
        rcases h1 with h1 | h1 | h1 | h1
        · exact .inl h1
        · exact .inr (.inl h1)
        · cases h1
        · exact .inr (.inr h1))
theorem force_in {w : World} {b gs cs : Nat} {Cs : Array Value} {S : List (List UInt8)} (h : DiskIs w b gs cs Cs (.slice none 0 0) S []) {g first count : Nat} {tb : Option Nat} {R : List (Nat × List UInt8)} {St : List UInt8} {dur sum : Nat} (hl : LogIn w g b gs first count tb R St dur sum)
    (hS : ∀ k, k < count → S.getD (first + k) [] = cellL (St.take dur) k) (hfc : first + count ≤ S.length) (hS4 : S.length ≤ 4096) (mark : Int) :
    Calls Try.prog 102 #[.pointer (some ⟨g, 0, none⟩), .int .i64 mark] w fun x w' => x = .returned (.tuple #[]) ∧ ForcedTo w b gs cs Cs S g first count tb R St dur sum mark w' := by
  obtain ⟨ta, tc, h3, h4, h5⟩ := hl.log
  have hd := hl.dle
  have hft := hl.fits
  have he : dur / 256 * 256 + (St.length - dur / 256 * 256) = St.length := by omega
  have hA := force_log h h3 (St.drop (dur / 256 * 256)) h4 (by rw [h5]; exact hl.tg) (fun q hq => ⟨fun h1 => hl.tbb (by rw [← h5, hq, h1]), fun h1 => hl.tgs (by rw [← h5, hq, h1]), fun h1 => by cases h1⟩) hl.gb hl.gg (fun h1 => by cases h1) hfc hS4 (by simp) (by omega) (by omega) mark
  rw [he] at hA
  exact hA.mono (fun x w' hp => forced_to h hl hS hfc mark x w' hp)
end Go.Proofs.Ytpjelmlbikmddaa
