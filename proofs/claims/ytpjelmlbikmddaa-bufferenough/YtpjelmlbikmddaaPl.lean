/- Plainly: sectors and their bytes; records and their bytes. -/
import Derived.Test.YtpjelmlbikmddaaFo
namespace Go.Proofs.Ytpjelmlbikmddaa
open Go.RowKit
set_option maxRecDepth 100000
set_option linter.unusedVariables false

theorem latest_none (S : List (List UInt8)) (n : Nat) : latestOf S [] n = S.getD n [] := by simp [latestOf, seek]
theorem layS_full (S : List (List UInt8)) (hl : ∀ s ∈ S, s.length = 256) (n : Nat) (hn : n < S.length) (l : List UInt8) (h : l.length = 256) : layS S n l 256 = S.set n l := by
  have e : (S.getD n []).length = 256 := by
    have e : S.getD n [] = S[n] := by simp [hn]
    rw [e]; exact hl _ (List.getElem_mem hn)
  unfold layS
  rw [List.take_of_length_le (by omega), List.drop_eq_nil_of_le (by omega), List.append_nil]

theorem laysTo_lens (S : List (List UInt8)) (L : List (Nat × List UInt8)) (cnt : Nat → Option Nat) (hc : ∀ i c, cnt i = some c → c ≤ 256) (hl : ∀ s ∈ S, s.length = 256) (hw : ∀ p ∈ L, p.2.length = 256 ∧ p.1 < S.length) (k : Nat) :
    ∀ s ∈ laysTo S L cnt k, s.length = 256 := by
  induction k with
  | zero => exact hl
  | succ k ih =>
    unfold laysTo
    split
    · rename_i p hp
      split
      · rename_i c hcc
        have := hw p (List.mem_of_getElem? hp)
        exact layS_lens _ ih p.1 (by rw [laysTo_length]; exact this.2) p.2 this.1 c (hc k c hcc)
      · exact ih
    · exact ih

theorem sync_read (S : List (List UInt8)) (L : List (Nat × List UInt8)) (hl : ∀ s ∈ S, s.length = 256) (hw : ∀ p ∈ L, p.2.length = 256 ∧ p.1 < S.length) (s : Nat) (hs : s < S.length) (k : Nat) :
    (laysTo S L (fun _ => some 256) k).getD s [] = (seek L s k).getD (S.getD s []) := by
  induction k with
  | zero => rfl
  | succ k ih =>
    cases hp : L[k]? with
    | none => rw [laysTo, seek, hp]; exact ih
    | some p =>
      have hpw := hw p (List.mem_of_getElem? hp)
      rw [laysTo_some S L _ k p hp 256 rfl, layS_full _ (laysTo_lens S L _ (by simp) hl hw k) p.1 (by rw [laysTo_length]; exact hpw.2) p.2 hpw.1]
      by_cases hps : p.1 = s
      · rw [seek_hit L s k p hp hps, hps]
        simp [List.getD_eq_getElem?_getD, laysTo_length, hs]
      · rw [seek_miss L s k p hp hps, ← ih]
        simp [List.getD_eq_getElem?_getD, hps]

theorem latest_sync (S : List (List UInt8)) (L : List (Nat × List UInt8)) (hl : ∀ s ∈ S, s.length = 256) (hw : ∀ p ∈ L, p.2.length = 256 ∧ p.1 < S.length) (s : Nat) (hs : s < S.length) :
    latestOf (laysTo S L (fun _ => some 256) L.length) [] s = latestOf S L s := by
  rw [latest_none, sync_read S L hl hw s hs]
  rfl

theorem seek_append (L M : List (Nat × List UInt8)) (n : Nat) : ∀ k, k ≤ L.length → seek (L ++ M) n k = seek L n k := by
  intro k
  induction k with
  | zero => intro _; rfl
  | succ k ih =>
    intro hk
    unfold seek
    rw [List.getElem?_append_left (by omega), ih (by omega)]

theorem latest_snoc (S : List (List UInt8)) (L : List (Nat × List UInt8)) (n : Nat) (x : List UInt8) (s : Nat) : latestOf S (L ++ [(n, x)]) s = if n = s then x else latestOf S L s := by
  unfold latestOf
  have e : (L ++ [(n, x)]).length = L.length + 1 := by simp
  have g : (L ++ [(n, x)])[L.length]? = some (n, x) := by simp
  rw [e]
  by_cases h : n = s
  · rw [seek_hit _ s _ (n, x) g h, if_pos h]; rfl
  · rw [seek_miss _ s _ (n, x) g h, if_neg h, seek_append L _ s _ (Nat.le_refl _)]

theorem numB_getB (l : List UInt8) (h : l.length ≤ 8) : numB (getB l) l.length = l := by
  have key : ∀ (k : Nat) (l : List UInt8), l.length = k → k ≤ 8 → numB (getB l) k = l := by
    intro k
    induction k with
    | zero => intro l hl _; rw [List.eq_nil_of_length_eq_zero hl]; rfl
    | succ k ih =>
      intro l hl hk
      rcases List.eq_nil_or_concat l with rfl | ⟨a, b, rfl⟩
      · simp at hl
      · rw [List.concat_eq_append] at hl ⊢
        simp at hl
        have h1 := getB_le a (by omega)
        have h2 := b.toNat_lt
        rw [hl] at h1
        have h3 : (256 : Nat) ^ k ≤ 256 ^ 7 := Nat.pow_le_pow_right (by omega) (by omega)
        have h4 : (256 : Nat) ^ 7 = 72057594037927936 := by decide
        rw [getB_snoc, numB, Nat.mod_eq_of_lt (by omega), show (getB a * 256 + b.toNat) / 256 = getB a by omega, ih a hl (by omega)]
        congr 2
        apply UInt8.toNat_inj.1
        simp
  exact key _ l rfl h


/-- Sector k of bytes that noughts follow. -/
def cellL (X : List UInt8) (k : Nat) : List UInt8 := (List.range 256).map fun j => X.getD (k * 256 + j) 0
theorem cellL_length (X : List UInt8) (k : Nat) : (cellL X k).length = 256 := by simp [cellL]
theorem getD_pad (X : List UInt8) (m i : Nat) : (X ++ zeros m).getD i 0 = X.getD i 0 := by
  simp only [List.getD_eq_getElem?_getD, zeros]
  rcases Nat.lt_or_ge i X.length with h | h
  · rw [List.getElem?_append_left h]
  · rw [List.getElem?_append_right h, List.getElem?_eq_none h, List.getElem?_replicate]
    split <;> rfl
theorem chunk_cell (X : List UInt8) (k n : Nat) (hl : X.length = n * 256) (hk : k < n) : chunk X k = cellL X k := by
  apply List.ext_getElem?
  intro i
  unfold chunk cellL
  rw [List.getElem?_take, List.getElem?_map]
  by_cases hi : i < 256
  · rw [if_pos hi, List.getElem?_drop, List.getElem?_range hi]
    have : k * 256 + i < X.length := by omega
    simp [List.getElem?_eq_getElem this]
  · rw [if_neg hi, List.getElem?_eq_none (by simp; omega)]
    rfl
theorem cellL_pad (X : List UInt8) (m k : Nat) : cellL (X ++ zeros m) k = cellL X k := by
  unfold cellL
  simp only [getD_pad]
theorem padC_cell (T : List UInt8) (j : Nat) : padC T j = cellL T j := by
  apply List.ext_getElem?
  intro i
  have hl := padC_length T j
  by_cases hi : i < 256
  · have hr : (cellL T j)[i]? = some (T.getD (j * 256 + i) 0) := by
      unfold cellL
      rw [List.getElem?_map, List.getElem?_range hi]; rfl
    rw [hr]
    unfold padC over chunk
    simp only [List.take_zero, List.nil_append, Nat.zero_add, List.take_take, Nat.min_self]
    rcases Nat.lt_or_ge i ((T.drop (j * 256)).take 256).length with h | h
    · rw [List.getElem?_append_left h, List.getElem?_take, if_pos hi, List.getElem?_drop]
      have : j * 256 + i < T.length := by rw [List.length_take, List.length_drop] at h; omega
      simp [List.getElem?_eq_getElem this]
    · rw [List.getElem?_append_right h, List.getElem?_drop]
      rw [List.length_take, List.length_drop] at h ⊢
      have h1 : T.length ≤ j * 256 + i := by omega
      unfold zeros
      rw [List.getElem?_replicate, if_pos (by omega), List.getD_eq_getElem?_getD, List.getElem?_eq_none h1]
      rfl
  · rw [List.getElem?_eq_none (by omega), List.getElem?_eq_none (by rw [cellL_length]; omega)]
theorem cellL_drop (X : List UInt8) (q j : Nat) : cellL (X.drop (q * 256)) j = cellL X (q + j) := by
  unfold cellL
  apply List.map_congr_left
  intro i _
  simp only [List.getD_eq_getElem?_getD, List.getElem?_drop]
  rw [show q * 256 + (j * 256 + i) = (q + j) * 256 + i by omega]
theorem cellL_take (X : List UInt8) (d k : Nat) (h : (k + 1) * 256 ≤ d ∨ (X.length ≤ k * 256)) : cellL (X.take d) k = cellL X k := by
  unfold cellL
  apply List.map_congr_left
  intro i hi
  have hi := List.mem_range.1 hi
  simp only [List.getD_eq_getElem?_getD, List.getElem?_take]
  rcases h with h | h
  · rw [if_pos (by omega)]
  · rw [List.getElem?_eq_none (Nat.le_trans h (Nat.le_add_right _ _))]
    split <;> rfl

/-- The bytes of sectors, from the sectors. -/
theorem bytesOf_eq (S : List (List UInt8)) (L : List (Nat × List UInt8)) (first count : Nat) (X : List UInt8) (hX : X.length = count * 256) (h : ∀ k, k < count → latestOf S L (first + k) = cellL X k) : bytesOf S L first count = X := by
  have key : ∀ k, k ≤ count → bytesOf S L first k = X.take (k * 256) := by
    intro k
    induction k with
    | zero => intro _; simp [bytesOf]
    | succ k ih =>
      intro hk
      rw [bytesOf, ih (by omega), h k (by omega), ← chunk_cell X k count hX (by omega), Nat.succ_mul, List.take_add]
      rfl
  rw [key count (Nat.le_refl _), List.take_of_length_le (by omega)]
theorem bytesOf_chunk (S : List (List UInt8)) (L : List (Nat × List UInt8)) (first count : Nat) (h : ∀ k, k < count → (latestOf S L (first + k)).length = 256) : (bytesOf S L first count).length = count * 256 ∧ ∀ k, k < count → chunk (bytesOf S L first count) k = latestOf S L (first + k) := by
  have key : ∀ c, c ≤ count → (bytesOf S L first c).length = c * 256 ∧ ∀ k, k < c → chunk (bytesOf S L first c) k = latestOf S L (first + k) := by
    intro c
    induction c with
    | zero => intro _; exact ⟨rfl, fun k hk => by omega⟩
    | succ c ih =>
      intro hc
      obtain ⟨h1, h2⟩ := ih (by omega)
      have h3 := h c (by omega)
      refine ⟨by rw [bytesOf, List.length_append, h1, h3]; omega, fun k hk => ?_⟩
      rw [bytesOf]
      unfold chunk
      rcases Nat.lt_or_ge k c with hlt | hge
      · rw [← h2 k hlt]
        unfold chunk
        rw [List.drop_append_of_le_length (by omega), List.take_append_of_le_length (by rw [List.length_drop]; omega)]
      · obtain rfl : k = c := by omega
        rw [show k * 256 = (bytesOf S L first k).length by omega, List.drop_left, List.take_of_length_le (by omega)]
  exact key count (Nat.le_refl _)
theorem cleanB_pad (B : List UInt8) (e : Nat) (h : e ≤ B.length) : cleanB B e = B.take e ++ zeros (B.length - e) := by
  unfold cleanB over zeros
  simp only [List.take_zero, List.nil_append, Nat.zero_add]
  rw [List.take_of_length_le (by rw [List.length_take]; omega), List.drop_replicate, List.length_take, Nat.min_eq_left h]

theorem wipes_latest (S : List (List UInt8)) (L : List (Nat × List UInt8)) (C B : List UInt8) (first count : Nat) (hB : ∀ k, k < count → chunk B k = latestOf S L (first + k)) : ∀ c, c ≤ count → ∀ n, latestOf S (L ++ wipes C B first c) n = if first ≤ n ∧ n < first + c then chunk C (n - first) else latestOf S L n
  | 0, _, n => by rw [wipes, List.append_nil, if_neg (by omega)]
  | c + 1, hc, n => by
    have ih := wipes_latest S L C B first count hB c (by omega) n
    rw [wipes]
    by_cases he : chunk C c = chunk B c
    · rw [if_pos he, List.append_nil, ih]
      by_cases h1 : first ≤ n ∧ n < first + c
      · rw [if_pos h1, if_pos (by omega)]
      · rw [if_neg h1]
        by_cases h2 : n = first + c
        · rw [if_pos (by omega), h2, show first + c - first = c by omega, he, hB c (by omega)]
        · rw [if_neg (by omega)]
    · rw [if_neg he, ← List.append_assoc, latest_snoc, ih]
      by_cases h2 : first + c = n
      · rw [if_pos h2, if_pos (by omega), ← h2, show first + c - first = c by omega]
      · rw [if_neg h2]
        by_cases h1 : first ≤ n ∧ n < first + c
        · rw [if_pos h1, if_pos (by omega)]
        · rw [if_neg h1, if_neg (by omega)]
theorem forced_latest (S : List (List UInt8)) (L : List (Nat × List UInt8)) (T : List UInt8) (base : Nat) : ∀ c n, latestOf S (L ++ forced T base (List.range c)) n = if base ≤ n ∧ n < base + c then cellL T (n - base) else latestOf S L n
  | 0, n => by rw [if_neg (by omega)]; simp [forced]
  | c + 1, n => by
    have ih := forced_latest S L T base c n
    rw [List.range_succ, forced_snoc, ← List.append_assoc, latest_snoc, ih, List.length_range]
    by_cases h2 : base + c = n
    · rw [if_pos h2, if_pos (by omega), ← h2, show base + c - base = c by omega, padC_cell]
    · rw [if_neg h2]
      by_cases h1 : base ≤ n ∧ n < base + c
      · rw [if_pos h1, if_pos (by omega)]
      · rw [if_neg h1, if_neg (by omega)]

/-- Records, their bytes, the last one's sum. -/
inductive Chain : List (Nat × List UInt8) → List UInt8 → Nat → Prop
  | nil : Chain [] [] 0
  | snoc {R : List (Nat × List UInt8)} {St : List UInt8} {s : Nat} {d : List UInt8} (h : Chain R St s) (h0 : 0 < d.length) (h1 : d.length ≤ 1024) : Chain (R ++ [(St.length + 8 + d.length, d)]) (St ++ numB d.length 4 ++ numB (sealN s St.length d) 4 ++ d) (sealN s St.length d)
theorem Chain.lt {R : List (Nat × List UInt8)} {St : List UInt8} {s : Nat} (h : Chain R St s) : s < 4294967296 ∧ R.length ≤ St.length := by
  induction h with
  | nil => simp
  | snoc h h0 h1 ih => refine ⟨sealN_lt _ _ _, ?_⟩; simp [length_numB]; omega
theorem get4 (n : Nat) (h : n < 4294967296) : getB (numB n 4) = n := by rw [getB_numB n 4 (by omega), show (256 : Nat) ^ 4 = 4294967296 by decide, Nat.mod_eq_of_lt h]
theorem recAt_enc (St d Z : List UInt8) (s : Nat) (h0 : 0 < d.length) (h1 : d.length ≤ 1024) : recAt (St ++ numB d.length 4 ++ numB (sealN s St.length d) 4 ++ d ++ Z) St.length s = some (d, sealN s St.length d) := by
  have hd : (St ++ numB d.length 4 ++ numB (sealN s St.length d) 4 ++ d ++ Z).drop St.length = numB d.length 4 ++ (numB (sealN s St.length d) 4 ++ (d ++ Z)) := by
    rw [List.append_assoc, List.append_assoc, List.append_assoc, List.drop_left]
  have e1 : (numB d.length 4 ++ (numB (sealN s St.length d) 4 ++ (d ++ Z))).take 4 = numB d.length 4 := by rw [List.take_left' (length_numB _ _)]
  have e2 : (numB d.length 4 ++ (numB (sealN s St.length d) 4 ++ (d ++ Z))).drop 4 = numB (sealN s St.length d) 4 ++ (d ++ Z) := by rw [List.drop_left' (length_numB _ _)]
  have e3 : (numB d.length 4 ++ (numB (sealN s St.length d) 4 ++ (d ++ Z))).drop 8 = d ++ Z := by
    rw [show (8 : Nat) = 4 + 4 by rfl, ← List.drop_drop, e2, List.drop_left' (length_numB _ _)]
  have hl : (numB d.length 4 ++ (numB (sealN s St.length d) 4 ++ (d ++ Z))).length = 8 + d.length + Z.length := by simp [length_numB]; omega
  unfold recAt
  rw [hd, e1, e2, e3, hl, get4 _ (by omega), List.take_left' (length_numB _ _), get4 _ (sealN_lt _ _ _), List.take_left, if_neg (by omega), if_neg (by omega), if_pos rfl]
theorem recAt_zeros (St : List UInt8) (m s : Nat) : recAt (St ++ zeros m) St.length s = none := by
  unfold recAt
  rw [List.drop_left]
  split
  · rfl
  · rename_i h
    rw [if_pos]
    left
    have : (zeros m).take 4 = numB 0 4 := by
      unfold zeros at h ⊢
      rw [List.length_replicate] at h
      rw [List.take_replicate, Nat.min_eq_left (by omega)]
      rfl
    rw [this]
    exact get4 0 (by omega)
theorem Chain.took {R : List (Nat × List UInt8)} {St : List UInt8} {s : Nat} (h : Chain R St s) : ∀ Z, Took (St ++ Z) R St.length s := by
  induction h with
  | nil => intro Z; exact Took.nil
  | @snoc R St s d h h0 h1 ih =>
    intro Z
    have h2 := ih (numB d.length 4 ++ numB (sealN s St.length d) 4 ++ d ++ Z)
    have he : St ++ numB d.length 4 ++ numB (sealN s St.length d) 4 ++ d ++ Z = St ++ (numB d.length 4 ++ numB (sealN s St.length d) 4 ++ d ++ Z) := by simp [List.append_assoc]
    have h3 := recAt_enc St d Z s h0 h1
    have h4 := Took.snoc h2 (he ▸ h3)
    have hl : (St ++ numB d.length 4 ++ numB (sealN s St.length d) 4 ++ d).length = St.length + 8 + d.length := by simp [length_numB]; omega
    rw [hl, he]
    exact h4
theorem recAt_bytes {B : List UInt8} {e s t : Nat} {d : List UInt8} (h : recAt B e s = some (d, t)) : t = sealN s e d ∧ B.take (e + 8 + d.length) = B.take e ++ numB d.length 4 ++ numB t 4 ++ d := by
  have hf := recAt_fits h
  unfold recAt at h
  split at h
  · cases h
  · rename_i h1
    split at h
    · cases h
    · rename_i h2
      split at h
      · rename_i h3
        simp only [Option.some.injEq, Prod.mk.injEq] at h
        obtain ⟨hd, ht⟩ := h
        rw [List.length_drop] at h1 h2
        have hl : (((B.drop e).drop 8).take (getB ((B.drop e).take 4))).length = getB ((B.drop e).take 4) := by
          rw [List.length_take, List.length_drop, List.length_drop]; omega
        have hdl : d.length = getB ((B.drop e).take 4) := by rw [← hd, hl]
        have n1 : numB (getB ((B.drop e).take 4)) 4 = (B.drop e).take 4 := by
          have := numB_getB ((B.drop e).take 4) (by rw [List.length_take]; omega)
          rwa [show ((B.drop e).take 4).length = 4 by rw [List.length_take, List.length_drop]; omega] at this
        have n2 : numB (getB (((B.drop e).drop 4).take 4)) 4 = ((B.drop e).drop 4).take 4 := by
          have := numB_getB (((B.drop e).drop 4).take 4) (by rw [List.length_take]; omega)
          rwa [show (((B.drop e).drop 4).take 4).length = 4 by rw [List.length_take, List.length_drop, List.length_drop]; omega] at this
        refine ⟨by rw [← ht, hd], ?_⟩
        rw [h3, ht] at n2
        rw [hdl, n1, n2, ← hdl, Nat.add_assoc, List.take_add, Nat.add_comm 8, show d.length + 8 = 4 + (4 + d.length) by omega, List.take_add, List.take_add]
        rw [List.drop_drop] at hd ⊢
        rw [List.drop_drop]
        rw [← hdl] at hd
        simp only [List.append_assoc]
        rw [show e + 8 = e + 4 + 4 by omega] at hd
        rw [List.drop_drop] at *
        rw [hd]
      · cases h
theorem Took.chain {B : List UInt8} {R : List (Nat × List UInt8)} {e s : Nat} (h : Took B R e s) : Chain R (B.take e) s := by
  induction h with
  | nil => exact Chain.nil
  | @snoc R e s t d h hr ih =>
    have hf := recAt_fits hr
    obtain ⟨ht, hb⟩ := recAt_bytes hr
    have hl : (B.take e).length = e := by rw [List.length_take]; have := h.le; omega
    have h1 := Chain.snoc (d := d) ih hf.2.1 hf.2.2.1
    rw [hl, ← ht, ← hb] at h1
    exact h1
theorem Took.same {B : List UInt8} : ∀ (n : Nat) {R R' : List (Nat × List UInt8)} {e e' s s' : Nat}, R.length = n → R'.length = n → Took B R e s → Took B R' e' s' → R = R' ∧ e = e' ∧ s = s'
  | 0, R, R', e, e', s, s', h1, h2, t1, t2 => by
    cases t1 with
    | nil =>
      cases t2 with
      | nil => exact ⟨rfl, rfl, rfl⟩
      | snoc h hr => simp at h2
    | snoc h hr => simp at h1
  | n + 1, R, R', e, e', s, s', h1, h2, t1, t2 => by
    cases t1 with
    | nil => simp at h1
    | snoc h hr =>
      cases t2 with
      | nil => simp at h2
      | snoc h' hr' =>
        simp at h1 h2
        obtain ⟨rfl, rfl, rfl⟩ := Took.same n h1 h2 h h'
        rw [hr] at hr'
        cases hr'
        exact ⟨rfl, rfl, rfl⟩
theorem Took.part {B : List UInt8} {R : List (Nat × List UInt8)} {e s : Nat} (h : Took B R e s) : ∀ n, n < R.length → ∃ e' s' x, Took B (R.take n) e' s' ∧ recAt B e' s' = some x := by
  induction h with
  | nil => intro n hn; simp at hn
  | @snoc R e s t d h hr ih =>
    intro n hn
    simp at hn
    rcases Nat.lt_or_ge n R.length with h1 | h1
    · obtain ⟨e', s', x, h2, h3⟩ := ih n h1
      exact ⟨e', s', x, by rw [List.take_append_of_le_length (by omega)]; exact h2, h3⟩
    · obtain rfl : n = R.length := by omega
      exact ⟨e, s, _, by rw [List.take_left]; exact h, hr⟩
theorem Took.unique {B : List UInt8} {R R' : List (Nat × List UInt8)} {e e' s s' : Nat} (h : Took B R e s) (hn : recAt B e s = none) (h' : Took B R' e' s') (hn' : recAt B e' s' = none) : R = R' ∧ e = e' ∧ s = s' := by
  rcases Nat.lt_trichotomy R.length R'.length with hl | hl | hl
  · obtain ⟨e1, s1, x, h1, h2⟩ := h'.part _ hl
    obtain ⟨_, rfl, rfl⟩ := Took.same R.length rfl (by rw [List.length_take]; omega) h h1
    rw [hn] at h2; cases h2
  · exact Took.same _ rfl hl.symm h h'
  · obtain ⟨e1, s1, x, h1, h2⟩ := h.part _ hl
    obtain ⟨_, rfl, rfl⟩ := Took.same R'.length rfl (by rw [List.length_take]; omega) h' h1
    rw [hn'] at h2; cases h2
end Go.Proofs.Ytpjelmlbikmddaa
