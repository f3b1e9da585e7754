/- BindParts, plainly: parts, what is true, moved terms, kinds of what terms come to. -/
import Derived.Test.YtbcmgodpplapaaaPa
import Derived.Test.YtbcmgodpplapaaaZb
namespace Go.Proofs.Ytbcmgodpplapaaa
open Go.RowKit
set_option maxRecDepth 100000
set_option linter.unusedVariables false
set_option linter.unusedSimpArgs false

mutual
/-- The document's parts of an expression. -/
def partsD : Ex → List Ex
  | .mk op num text of_ args => if op.toList = [65, 78, 68] then partsDL args else [.mk op num text of_ args]
def partsDL : List Ex → List Ex
  | [] => []
  | e :: l => partsD e ++ partsDL l
end
theorem bindL_append (S : List Cl) : ∀ (a b : List Ex) (x y : List Tm), bindL S a = .ok x → bindL S b = .ok y → bindL S (a ++ b) = .ok (x ++ y)
  | [], b, x, y, h1, h2 => by rw [bindL] at h1; obtain rfl := Except.ok.inj h1; exact h2
  | e :: a, b, x, y, h1, h2 => by
    rw [bindL] at h1
    cases he : bindE S e with
    | error c => rw [he] at h1; cases h1
    | ok t =>
      rw [he] at h1
      cases hl : bindL S a with
      | error c => rw [hl] at h1; cases h1
      | ok ts =>
        rw [hl] at h1
        obtain rfl := Except.ok.inj h1
        rw [List.cons_append, bindL, he, bindL_append S a b ts y hl h2]
        rfl
/-- A bound operator. -/
theorem bindE_op {S : List Cl} {op : ByteArray} {num : Int} {text of_ : ByteArray} {args : List Ex} {t : Tm} (h : bindE S (.mk op num text of_ args) = .ok t) (h1 : op.toList ≠ [110, 117, 109, 98, 101, 114]) (h2 : op.toList ≠ [116, 101, 120, 116]) (h3 : op.toList ≠ [110, 97, 109, 101]) : ∃ ts k, bindL S args = .ok ts ∧ resultK op.toList (ts.map Tm.kind) = some k ∧ t = .mk op k zV 0 ts := by
  rw [bindE, if_neg h1, if_neg h2, if_neg h3] at h
  cases hl : bindL S args with
  | error c => rw [hl] at h; cases h
  | ok ts =>
    rw [hl] at h
    cases hk : resultK op.toList (ts.map Tm.kind) with
    | none => simp only [hk] at h; cases h
    | some k => simp only [hk] at h; exact ⟨ts, k, rfl, hk, (Except.ok.inj h).symm⟩
theorem bindE_leaf {S : List Cl} {op : ByteArray} {num : Int} {text of_ : ByteArray} {args : List Ex} {t : Tm} (h : bindE S (.mk op num text of_ args) = .ok t) : ∃ k v p ts, t = .mk op k v p ts := by
  by_cases h1 : op.toList = [110, 117, 109, 98, 101, 114]
  · rw [bindE, if_pos h1] at h; exact ⟨_, _, _, _, (Except.ok.inj h).symm⟩
  · by_cases h2 : op.toList = [116, 101, 120, 116]
    · rw [bindE, if_neg h1, if_pos h2] at h
      split at h
      · cases h
      · exact ⟨_, _, _, _, (Except.ok.inj h).symm⟩
    · by_cases h3 : op.toList = [110, 97, 109, 101]
      · rw [bindE, if_neg h1, if_neg h2, if_pos h3] at h
        split at h
        · exact ⟨_, _, _, _, (Except.ok.inj h).symm⟩
        · cases h
      · obtain ⟨ts, k, _, _, e⟩ := bindE_op h h1 h2 h3
        exact ⟨_, _, _, _, e⟩
theorem bindL_cons {S : List Cl} {e : Ex} {l : List Ex} {ts : List Tm} (h : bindL S (e :: l) = .ok ts) : ∃ t us, bindE S e = .ok t ∧ bindL S l = .ok us ∧ ts = t :: us := by
  rw [bindL] at h
  cases he : bindE S e with
  | error c => rw [he] at h; cases h
  | ok t =>
    rw [he] at h
    cases hl : bindL S l with
    | error c => rw [hl] at h; cases h
    | ok us => rw [hl] at h; exact ⟨t, us, rfl, rfl, (Except.ok.inj h).symm⟩
mutual
theorem parts_bindE (S : List Cl) : ∀ (e : Ex) (t : Tm), bindE S e = .ok t → bindL S (partsD e) = .ok (partsE t)
  | .mk op num text of_ args, t, h => by
    by_cases ha : op.toList = [65, 78, 68]
    · obtain ⟨ts, k, hl, _, rfl⟩ := bindE_op h (by rw [ha]; decide) (by rw [ha]; decide) (by rw [ha]; decide)
      rw [partsD, if_pos ha, partsE, if_pos ha]
      exact parts_bindL S args ts hl
    · obtain ⟨k, v, p, ts, rfl⟩ := bindE_leaf h
      rw [partsD, if_neg ha, partsE, if_neg ha, bindL, h, bindL]
theorem parts_bindL (S : List Cl) : ∀ (l : List Ex) (ts : List Tm), bindL S l = .ok ts → bindL S (partsDL l) = .ok (partsL ts)
  | [], ts, h => by rw [bindL] at h; obtain rfl := Except.ok.inj h; rw [partsDL, bindL, partsL]
  | e :: l, ts, h => by
    obtain ⟨t, us, h1, h2, rfl⟩ := bindL_cons h
    rw [partsDL, partsL]
    exact bindL_append S _ _ _ _ (parts_bindE S e t h1) (parts_bindL S l us h2)
end
/-- Is a term true for a row? -/
def HoldsT (row : List Vl) (t : Tm) : Bool := match evalE appP row t with
  | .ok x => isT x
  | .error _ => false
theorem isT_truth (b : Bool) : isT (truthV b) = b := by cases b <;> rfl
mutual
theorem holds_parts (row : List Vl) : ∀ t : Tm, WfA t → (partsE t).all (HoldsT row) = HoldsT row t
  | .mk op kind val place args, h => by
    unfold WfA at h
    rw [partsE]
    by_cases ha : op.toList = [65, 78, 68]
    · rw [if_pos ha]
      have hl := h.1 ha
      match args, hl, h.2 with
      | [a, b], _, hw =>
        have h2 := holds_partsL row [a, b] hw
        rw [h2]
        simp only [List.all_cons, List.all_nil, Bool.and_true]
        unfold HoldsT
        rw [evalE, if_neg (by rw [ha]; decide), if_neg (by rw [ha]; decide), evalL, evalL, evalL]
        cases h1 : evalE appP row a with
        | error c => rfl
        | ok x =>
          cases h2 : evalE appP row b with
          | error c => (try simp)
          | ok y =>
            simp only []
            have e : apN appP op [x, y] = .ok (truthV (isT x && isT y)) := by
              unfold apN
              rw [if_neg (by rw [ha]; simp)]
              show appP op x y = _
              unfold appP
              rw [if_neg (by rw [ha]; decide), if_pos ha]
            rw [e]
            simp only [isT_truth]
    · rw [if_neg ha]; simp
theorem holds_partsL (row : List Vl) : ∀ l : List Tm, WfAL l → (partsL l).all (HoldsT row) = l.all (HoldsT row)
  | [], _ => by rw [partsL, List.all_nil]
  | t :: l, h => by
    unfold WfAL at h
    rw [partsL, List.all_append, holds_parts row t h.1, holds_partsL row l h.2, List.all_cons]
end
/-- Moved, with as many values ahead, it comes to the same. -/
theorem cell_move (ahead row : List Vl) (i : Nat) (kind : Int) (hi : i + ahead.length ≤ 4611686018427387904) : cellP (ahead ++ row) (wrap64 ((i : Int) + (ahead.length : Int))) kind = cellP row (i : Int) kind := by
  have hw : wrap64 ((i : Int) + (ahead.length : Int)) = ((i + ahead.length : Nat) : Int) := by unfold wrap64; omega
  unfold cellP
  rw [hw, if_neg (by omega), if_neg (by omega), Int.toNat_natCast, Int.toNat_natCast, List.getElem?_append_right (by omega), Nat.add_sub_cancel]
mutual
theorem eval_move (S : List Cl) (hSl : S.length ≤ 1048576) (ahead row : List Vl) (hal : ahead.length ≤ 1048576) : ∀ (e : Ex) (t : Tm), bindE S e = .ok t → evalE appP (ahead ++ row) (moveE (ahead.length : Int) t) = evalE appP row t
  | .mk op num text of_ args, t, h => by
    by_cases h1 : op.toList = [110, 117, 109, 98, 101, 114]
    · rw [bindE, if_pos h1] at h; obtain rfl := Except.ok.inj h
      rw [moveE, evalE, evalE, if_pos (.inl h1), if_pos (.inl h1)]
    · by_cases h2 : op.toList = [116, 101, 120, 116]
      · rw [bindE, if_neg h1, if_pos h2] at h
        split at h
        · cases h
        · obtain rfl := Except.ok.inj h
          rw [moveE, evalE, evalE, if_pos (.inr h2), if_pos (.inr h2)]
      · by_cases h3 : op.toList = [110, 97, 109, 101]
        · rw [bindE, if_neg h1, if_neg h2, if_pos h3] at h
          split at h
          · rename_i hz
            obtain rfl := Except.ok.inj h
            obtain ⟨i, c, hp, hc⟩ := findP_place hz
            have hil := (List.getElem?_eq_some_iff.1 hc).1
            rw [moveE, if_pos h3, evalE, evalE, if_neg (by rintro (h | h); exact h1 h; exact h2 h), if_pos h3, if_neg (by rintro (h | h); exact h1 h; exact h2 h), if_pos h3, hp]
            exact cell_move ahead row i _ (by omega)
          · cases h
        · obtain ⟨ts, k, hl, _, rfl⟩ := bindE_op h h1 h2 h3
          rw [moveE, evalE, evalE, if_neg (by rintro (h | h); exact h1 h; exact h2 h), if_neg h3, if_neg (by rintro (h | h); exact h1 h; exact h2 h), if_neg h3, eval_moveL S hSl ahead row hal args ts hl]
theorem eval_moveL (S : List Cl) (hSl : S.length ≤ 1048576) (ahead row : List Vl) (hal : ahead.length ≤ 1048576) : ∀ (l : List Ex) (ts : List Tm), bindL S l = .ok ts → evalL appP (ahead ++ row) (moveL (ahead.length : Int) ts) = evalL appP row ts
  | [], ts, h => by rw [bindL] at h; obtain rfl := Except.ok.inj h; rw [moveL, evalL, evalL]
  | e :: l, ts, h => by
    obtain ⟨t, us, h1, h2, rfl⟩ := bindL_cons h
    rw [moveL, evalL, evalL, eval_move S hSl ahead row hal e t h1, eval_moveL S hSl ahead row hal l us h2]
end
mutual
/-- All numbers are of 64 bits. -/
def ExN : Ex → Prop
  | .mk _ num _ _ args => In64 num ∧ ExNL args
def ExNL : List Ex → Prop
  | [] => True
  | e :: l => ExN e ∧ ExNL l
end
/-- What a value of a kind is. -/
def Typed (k : Int) (x : Vl) : Prop := x.kind = k ∧ In64 x.num ∧ (k = 3 → ∃ b, x = truthV b)
theorem truth_typed (b : Bool) : Typed 3 (truthV b) := ⟨by cases b <;> rfl, by cases b <;> (unfold truthV In64; simp), fun _ => ⟨b, rfl⟩⟩
theorem num_typed {o : Option Int} {x : Vl} (h : numV o = .ok x) (ho : ∀ n, o = some n → In64 n) : Typed 1 x := by
  cases o with
  | none => cases h
  | some n => obtain rfl := Except.ok.inj h; exact ⟨rfl, ho n rfl, fun h => by simp at h⟩
theorem sum_in64 {a b : Int} (ha : In64 a) (hb : In64 b) : ∀ n, sumP a b = some n → In64 n := fun n h => by
  rw [sumP_in ha hb] at h
  split at h
  · cases h; rename_i hc; exact hc
  · cases h
theorem diff_in64 {a b : Int} (ha : In64 a) (hb : In64 b) : ∀ n, diffP a b = some n → In64 n := fun n h => by
  rw [diffP_in ha hb] at h
  split at h
  · cases h; rename_i hc; exact hc
  · cases h
theorem mul_in64 {a b : Int} (ha : In64 a) (hb : In64 b) : ∀ n, mulP a b = some n → In64 n := fun n h => by
  rw [mulP_in ha hb] at h
  split at h
  · cases h; rename_i hc; exact hc
  · cases h
end Go.Proofs.Ytbcmgodpplapaaa
