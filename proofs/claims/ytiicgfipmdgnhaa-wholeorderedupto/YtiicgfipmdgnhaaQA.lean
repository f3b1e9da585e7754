/- What the codec answers, plainly: sums, numbers as bytes, values as bytes and back. -/
namespace Go.Proofs.Ytiicgfipmdgnhaa

/-- One bit of the sum. -/
def stir1 (s : Nat) : Nat := if s % 2 = 1 then (s / 2) ^^^ 3988292384 else s / 2
/-- Some bits of the sum. -/
def stirN : Nat → Nat → Nat
  | 0, s => s
  | k + 1, s => stirN k (stir1 s)
/-- The sum so far, and some bytes more. -/
def crcFrom (s : Nat) (l : List UInt8) : Nat := l.foldl (fun s b => stirN 8 (s ^^^ b.toNat)) s
def crc (l : List UInt8) : Nat := 4294967295 - crcFrom 4294967295 l

theorem stir1_lt (s : Nat) (h : s < 4294967296) : stir1 s < 4294967296 := by
  unfold stir1
  split
  · exact Nat.xor_lt_two_pow (n := 32) (by omega) (by omega)
  · omega
theorem stirN_lt : ∀ (k s : Nat), s < 4294967296 → stirN k s < 4294967296
  | 0, _, h => h
  | k + 1, s, h => stirN_lt k _ (stir1_lt s h)
theorem stirN_succ (k s : Nat) : stirN (k + 1) s = stir1 (stirN k s) := by
  induction k generalizing s with
  | zero => rfl
  | succ k ih => rw [stirN, ih]; rfl
theorem xor_byte_lt (s : Nat) (b : UInt8) (h : s < 4294967296) : s ^^^ b.toNat < 4294967296 :=
  Nat.xor_lt_two_pow (n := 32) (by omega) (by have := b.toNat_lt; omega)
theorem crcFrom_lt (l : List UInt8) : ∀ (s : Nat), s < 4294967296 → crcFrom s l < 4294967296 := by
  induction l with
  | nil => exact fun _ h => h
  | cons b r ih => exact fun s h => ih _ (stirN_lt 8 _ (xor_byte_lt s b h))
theorem crcFrom_append (s : Nat) (a b : List UInt8) : crcFrom s (a ++ b) = crcFrom (crcFrom s a) b := by simp [crcFrom]
theorem crcFrom_snoc (s : Nat) (a : List UInt8) (b : UInt8) : crcFrom s (a ++ [b]) = stirN 8 (crcFrom s a ^^^ b.toNat) := by simp [crcFrom]
theorem crc_lt (l : List UInt8) : crc l < 4294967296 := by unfold crc; omega

/-- A number's lowest bytes, the highest of them first. -/
def numB (n : Nat) : Nat → List UInt8
  | 0 => []
  | k + 1 => numB (n / 256) k ++ [UInt8.ofNat n]
theorem length_numB (n k : Nat) : (numB n k).length = k := by
  induction k generalizing n with
  | zero => rfl
  | succ k ih => simp [numB, ih]
/-- The number of bytes. -/
def getB (l : List UInt8) : Nat := l.foldl (fun n x => (n * 256 + x.toNat) % 18446744073709551616) 0
theorem getB_snoc (a : List UInt8) (b : UInt8) : getB (a ++ [b]) = (getB a * 256 + b.toNat) % 18446744073709551616 := by simp [getB]
theorem getB_lt (l : List UInt8) : getB l < 18446744073709551616 := by
  rcases List.eq_nil_or_concat l with rfl | ⟨a, b, rfl⟩
  · decide
  · rw [List.concat_eq_append, getB_snoc]; exact Nat.mod_lt _ (by decide)

/-- A value. -/
structure Val where
  kind : Int
  num : Int
  text : List UInt8

/-- The error's number of a value: 0: none. -/
def checkV (v : Val) : Nat :=
  if v.kind = 1 ∧ v.text = [] then 0
  else if v.kind = 2 ∧ v.num = 0 then (if v.text.length > 64 then 2 else 0)
  else 21
/-- The error's number of values: the first's. -/
def checkL : List Val → Nat
  | [] => 0
  | v :: r => if checkV v = 0 then checkL r else checkV v

/-- An Int lifted above 0. -/
def lift (n : Int) : Nat := ((n + 9223372036854775808) % 18446744073709551616).toNat
/-- A text's bytes: a 0 has 255 behind it. -/
def esc : List UInt8 → List UInt8
  | [] => []
  | b :: r => if b = 0 then 0 :: 255 :: esc r else b :: esc r
def encV (v : Val) : List UInt8 := if v.kind = 1 then 1 :: numB (lift v.num) 8 else 2 :: (esc v.text ++ [0, 0])
def encL : List Val → List UInt8
  | [] => []
  | v :: r => encV v ++ encL r

/-- The text ahead; what is left behind it. Or the error's number, and how many bytes are left at its place. -/
def readT : List UInt8 → List UInt8 → Except (Nat × Nat) (List UInt8 × List UInt8)
  | [], _ => .error (20, 0)
  | [b], out => if b = 0 then .error (20, 0) else readT [] (out ++ [b])
  | b :: x :: r, out =>
    if b = 0 then (if x = 0 then .ok (out, r) else if x = 255 then readT r (out ++ [0]) else .error (22, r.length + 1))
    else readT (x :: r) (out ++ [b])

/-- The value ahead; what is left behind it. -/
def decV : List UInt8 → Except (Nat × Nat) (Val × List UInt8)
  | [] => .error (20, 0)
  | k :: r =>
    if k = 1 then (if r.length < 8 then .error (20, 0) else .ok (⟨1, (getB (r.take 8) : Int) - 9223372036854775808, []⟩, r.drop 8))
    else if k = 2 then
      match readT r [] with
      | .error e => .error e
      | .ok (t, r') => if t.length > 64 then .error (2, r.length + 1) else .ok (⟨2, 0, t⟩, r')
    else .error (21, r.length + 1)

/-- All values, behind some that are there. -/
def decL (l : List UInt8) (out : List Val) : Except (Nat × Nat) (List Val) :=
  if l = [] then .ok out
  else match decV l with
    | .error e => .error e
    | .ok (v, r) => if r.length < l.length then decL r (out ++ [v]) else .ok out
  termination_by l.length

theorem readT_lt : ∀ (l out : List UInt8) (t r : List UInt8), readT l out = .ok (t, r) → r.length < l.length
  | [], _, _, _, h => by simp [readT] at h
  | [b], out, t, r, h => by
    rw [readT] at h
    split at h
    · cases h
    · simp [readT] at h
  | b :: x :: q, out, t, r, h => by
    rw [readT] at h
    split at h
    · split at h
      · simp at h; obtain ⟨_, rfl⟩ := h; simp; omega
      · split at h
        · have := readT_lt q _ _ _ h; simp; omega
        · cases h
    · have := readT_lt (x :: q) _ _ _ h; simp at this ⊢; omega
theorem decV_lt (l : List UInt8) (v : Val) (r : List UInt8) (h : decV l = .ok (v, r)) : r.length < l.length := by
  cases l with
  | nil => simp [decV] at h
  | cons k q =>
    simp only [decV] at h
    split at h
    · split at h
      · cases h
      · simp at h; obtain ⟨_, rfl⟩ := h; simp; omega
    · split at h
      · split at h
        · cases h
        · rename_i t r' hr
          split at h
          · cases h
          · simp at h; obtain ⟨_, rfl⟩ := h
            have := readT_lt q _ _ _ hr
            simp; omega
      · cases h
theorem decL_nil (out : List Val) : decL [] out = .ok out := by rw [decL]; simp
theorem decL_err (l : List UInt8) (out : List Val) (e : Nat × Nat) (h : decV l = .error e) (hl : l ≠ []) : decL l out = .error e := by rw [decL]; simp [hl, h]
theorem decL_step (l : List UInt8) (out : List Val) (v : Val) (r : List UInt8) (h : decV l = .ok (v, r)) : decL l out = decL r (out ++ [v]) := by
  have hlt := decV_lt l v r h
  have hl : l ≠ [] := by rintro rfl; simp at hlt
  rw [decL]; simp [hl, h, hlt]

end Go.Proofs.Ytiicgfipmdgnhaa
