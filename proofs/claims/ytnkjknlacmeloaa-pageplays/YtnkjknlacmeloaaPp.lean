/- A page as bytes, plainly. Over the codec's plain answers (texts A, P of seat Ytnkjknlacmeloaa): to be copied under a seat's name. -/
import Derived.Test.YtnkjknlacmeloaaE
namespace Go.Proofs.Ytnkjknlacmeloaa

def recB (r : List UInt8) : List UInt8 := UInt8.ofNat r.length :: r
def recsB (R : List (List UInt8)) : List UInt8 := (R.map recB).flatten
def usedP (R : List (List UInt8)) : Nat := 13 + (recsB R).length
def markN (m : Int) : Nat := (m % 18446744073709551616).toNat
def bodyP (R : List (List UInt8)) (m : Int) : List UInt8 := numB (markN m) 8 ++ UInt8.ofNat R.length :: recsB R
def padP (l : List UInt8) : List UInt8 := l ++ List.replicate (252 - l.length) 0
def bytesP (R : List (List UInt8)) (m : Int) : List UInt8 := numB (crc (padP (bodyP R m))) 4 ++ padP (bodyP R m)
structure FitsP (R : List (List UInt8)) : Prop where
  used : usedP R ≤ 256
  each : ∀ r ∈ R, r.length ≤ 200
def sign64 (g : Nat) : Int := if g < 9223372036854775808 then (g : Int) else (g : Int) - 18446744073709551616

def takeRecs : Nat → List UInt8 → Option (List (List UInt8) × List UInt8)
  | 0, l => some ([], l)
  | _ + 1, [] => none
  | k + 1, n :: l => if n.toNat > 200 ∨ l.length < n.toNat then none else
    match takeRecs k (l.drop n.toNat) with
    | none => none
    | some (R, rest) => some (l.take n.toNat :: R, rest)
/-- The page of these bytes, or the error's number. -/
def openP (l : List UInt8) : Except Nat (List (List UInt8) × Int) :=
  if l.length ≠ 256 then .error 10
  else if numB (crc (l.drop 4)) 4 ≠ l.take 4 then .error 30
  else match takeRecs ((l[12]?).getD 0).toNat (l.drop 13) with
    | none => .error 31
    | some (R, _) => if bytesP R (sign64 (getB ((l.drop 4).take 8))) = l then .ok (R, sign64 (getB ((l.drop 4).take 8))) else .error 31

theorem recsB_cons (r : List UInt8) (R : List (List UInt8)) : recsB (r :: R) = UInt8.ofNat r.length :: (r ++ recsB R) := by simp [recsB, recB]
theorem recsB_snoc (R : List (List UInt8)) (r : List UInt8) : recsB (R ++ [r]) = recsB R ++ recB r := by simp [recsB]
theorem length_recsB (R : List (List UInt8)) : R.length ≤ (recsB R).length := by
  induction R with
  | nil => simp [recsB]
  | cons r R ih => rw [recsB_cons]; simp; omega
theorem FitsP.count {R : List (List UInt8)} (h : FitsP R) : R.length ≤ 243 := by
  have := length_recsB R
  have := h.used
  unfold usedP at this
  omega
theorem takeRecs_recsB (R : List (List UInt8)) (rest : List UInt8) (h : ∀ r ∈ R, r.length ≤ 200) : takeRecs R.length (recsB R ++ rest) = some (R, rest) := by
  induction R with
  | nil => simp [takeRecs, recsB]
  | cons r R ih =>
    have hr := h r (by simp)
    have hn : (UInt8.ofNat r.length).toNat = r.length := by simp; omega
    rw [recsB_cons, List.length_cons, List.cons_append, takeRecs, hn, if_neg (by simp; omega)]
    have e1 : (r ++ recsB R ++ rest).drop r.length = recsB R ++ rest := by rw [List.append_assoc, List.drop_left]
    have e2 : (r ++ recsB R ++ rest).take r.length = r := by rw [List.append_assoc, List.take_left]
    rw [e1, e2, ih (fun x hx => h x (by simp [hx]))]
theorem takeRecs_fits : ∀ (k : Nat) (l : List UInt8) (R : List (List UInt8)) (rest : List UInt8), takeRecs k l = some (R, rest) → recsB R ++ rest = l ∧ R.length = k ∧ ∀ r ∈ R, r.length ≤ 200
  | 0, l, R, rest, h => by
    simp [takeRecs] at h
    obtain ⟨rfl, rfl⟩ := h
    simp [recsB]
  | k + 1, [], R, rest, h => by simp [takeRecs] at h
  | k + 1, n :: l, R, rest, h => by
    rw [takeRecs] at h
    split at h
    · cases h
    · rename_i hn
      split at h
      · cases h
      · rename_i R' rest' hR
        simp only [Option.some.injEq, Prod.mk.injEq] at h
        obtain ⟨rfl, rfl⟩ := h
        obtain ⟨h1, h2, h3⟩ := takeRecs_fits k _ _ _ hR
        have hl : (l.take n.toNat).length = n.toNat := by rw [List.length_take]; omega
        refine ⟨?_, by simp [h2], ?_⟩
        · rw [recsB_cons, hl, List.cons_append, List.append_assoc, h1, List.take_append_drop]
          simp
        · intro r hr
          rcases List.mem_cons.1 hr with rfl | hr
          · rw [hl]; omega
          · exact h3 r hr
theorem length_bodyP (R : List (List UInt8)) (m : Int) : (bodyP R m).length = 9 + (recsB R).length := by
  simp [bodyP, length_numB]; omega
theorem length_padP {R : List (List UInt8)} (h : FitsP R) (m : Int) : (padP (bodyP R m)).length = 252 := by
  have := h.used
  unfold usedP at this
  simp [padP, length_bodyP]; omega
theorem length_bytesP {R : List (List UInt8)} (h : FitsP R) (m : Int) : (bytesP R m).length = 256 := by
  simp [bytesP, length_numB, length_padP h]
theorem sign_mark (m : Int) (h : -9223372036854775808 ≤ m ∧ m < 9223372036854775808) : sign64 (markN m) = m := by
  unfold sign64 markN
  split <;> omega
theorem markN_lt (m : Int) : markN m < 18446744073709551616 := by unfold markN; omega
theorem bytesP_parts {R : List (List UInt8)} (m : Int) :
    (bytesP R m).drop 4 = padP (bodyP R m) ∧ (bytesP R m).take 4 = numB (crc (padP (bodyP R m))) 4 ∧ ((bytesP R m).drop 4).take 8 = numB (markN m) 8 ∧ (bytesP R m)[12]? = some (UInt8.ofNat R.length) ∧
      (bytesP R m).drop 13 = recsB R ++ List.replicate (252 - (bodyP R m).length) 0 := by
  have l4 : (numB (crc (padP (bodyP R m))) 4).length = 4 := length_numB _ _
  have l8 : (numB (markN m) 8).length = 8 := length_numB _ _
  have d4 : (bytesP R m).drop 4 = padP (bodyP R m) := by
    have := List.drop_left (l₁ := numB (crc (padP (bodyP R m))) 4) (l₂ := padP (bodyP R m))
    rw [l4] at this
    exact this
  have e : padP (bodyP R m) = numB (markN m) 8 ++ (UInt8.ofNat R.length :: (recsB R ++ List.replicate (252 - (bodyP R m).length) 0)) := by
    simp [padP, bodyP]
  refine ⟨d4, ?_, ?_, ?_, ?_⟩
  · have := List.take_left (l₁ := numB (crc (padP (bodyP R m))) 4) (l₂ := padP (bodyP R m))
    rw [l4] at this
    exact this
  · rw [d4, e]
    have := List.take_left (l₁ := numB (markN m) 8) (l₂ := UInt8.ofNat R.length :: (recsB R ++ List.replicate (252 - (bodyP R m).length) 0))
    rw [l8] at this
    exact this
  · have h1 : (bytesP R m)[12]? = ((bytesP R m).drop 4)[8]? := by rw [List.getElem?_drop]
    rw [h1, d4, e, List.getElem?_append_right (by omega), l8]
    rfl
  · have h1 : (bytesP R m).drop 13 = (((bytesP R m).drop 4).drop 8).drop 1 := by rw [List.drop_drop, List.drop_drop]
    rw [h1, d4, e]
    have := List.drop_left (l₁ := numB (markN m) 8) (l₂ := UInt8.ofNat R.length :: (recsB R ++ List.replicate (252 - (bodyP R m).length) 0))
    rw [l8] at this
    rw [this]
    rfl
theorem open_bytes {R : List (List UInt8)} (h : FitsP R) (m : Int) (hm : -9223372036854775808 ≤ m ∧ m < 9223372036854775808) : openP (bytesP R m) = .ok (R, m) := by
  obtain ⟨p1, p2, p3, p4, p5⟩ := bytesP_parts (R := R) m
  have hc := h.count
  have hn : (UInt8.ofNat R.length).toNat = R.length := by simp; omega
  have hg : getB (numB (markN m) 8) = markN m := by rw [getB_numB _ _ (by omega), Nat.mod_eq_of_lt (by have := markN_lt m; omega)]
  have hk : ((bytesP R m)[12]?.getD 0).toNat = R.length := by rw [p4]; exact hn
  unfold openP
  rw [if_neg (by rw [length_bytesP h]; decide), p1, p2, if_neg (by simp), ← p1, p3, hk, p5, takeRecs_recsB R _ h.each]
  simp only
  rw [hg, sign_mark m hm, if_pos rfl]
theorem bytes_open {l : List UInt8} {R : List (List UInt8)} {m : Int} (h : openP l = .ok (R, m)) : bytesP R m = l ∧ FitsP R ∧ (-9223372036854775808 ≤ m ∧ m < 9223372036854775808) := by
  unfold openP at h
  split at h
  · cases h
  · rename_i hl
    split at h
    · cases h
    · split at h
      · cases h
      · rename_i R' rest hR
        split at h
        · rename_i hb
          simp only [Except.ok.injEq, Prod.mk.injEq] at h
          obtain ⟨rfl, rfl⟩ := h
          obtain ⟨h1, h2, h3⟩ := takeRecs_fits _ _ _ _ hR
          refine ⟨hb, ⟨?_, h3⟩, ?_⟩
          · have := congrArg List.length h1
            rw [List.length_append, List.length_drop] at this
            have hl2 : l.length = 256 := by simpa using hl
            unfold usedP
            omega
          · have hg := getB_lt ((l.drop 4).take 8)
            unfold sign64
            split <;> omega
        · cases h
end Go.Proofs.Ytnkjknlacmeloaa
