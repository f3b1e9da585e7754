/- Values as bytes: which begin with some others; and what lies in a range of texts. -/
import Derived.Test.YtiicgfipmdgnhaaQCq
import Derived.Test.YtiicgfipmdgnhaaZa
namespace Go.Proofs.Ytiicgfipmdgnhaa
set_option maxRecDepth 100000
set_option linter.unusedVariables false
set_option linter.unusedSimpArgs false

theorem checkL_cons {v : Val} {r : List Val} (h : checkL (v :: r) = 0) : checkV v = 0 ∧ checkL r = 0 := by
  rw [checkL] at h
  split at h
  · exact ⟨by assumption, h⟩
  · exact absurd h (by assumption)
theorem Wf.cons {v : Val} {r : List Val} (h : Wf (v :: r)) : (-9223372036854775808 ≤ v.num ∧ v.num < 9223372036854775808) ∧ Wf r := ⟨h v (List.mem_cons_self ..), fun x hx => h x (List.mem_cons_of_mem _ hx)⟩
/-- The bytes begin with those of some values just if the values do. -/
theorem pre_enc : ∀ (A R : List Val), checkL A = 0 → checkL R = 0 → Wf A → Wf R → (encL A <+: encL R ↔ A <+: R)
  | [], R, _, _, _, _ => ⟨fun _ => List.nil_prefix, fun _ => List.nil_prefix⟩
  | a :: A, [], ha, _, _, _ => by
    constructor
    · intro h
      have h1 := List.prefix_nil.1 h
      rw [encL] at h1
      exact absurd (List.append_eq_nil_iff.1 h1).1 (encV_ne a)
    · intro h
      have h1 := List.prefix_nil.1 h
      cases h1
  | a :: A, r :: R, ha, hr, wa, wr => by
    obtain ⟨ha1, ha2⟩ := checkL_cons ha
    obtain ⟨hr1, hr2⟩ := checkL_cons hr
    have ih := pre_enc A R ha2 hr2 wa.cons.2 wr.cons.2
    constructor
    · rintro ⟨t, ht⟩
      rw [encL, encL, List.append_assoc] at ht
      have d1 := decV_encV a (encL A ++ t) wa.cons.1 ha1
      have d2 := decV_encV r (encL R) wr.cons.1 hr1
      rw [ht, d2] at d1
      injection d1 with d1
      injection d1 with e1 e2
      subst e1
      exact List.prefix_cons_inj _ |>.2 (ih.1 ⟨t, e2.symm⟩)
    · intro h
      obtain ⟨e1, h2⟩ := List.cons_prefix_cons.1 h
      subst e1
      obtain ⟨t, ht⟩ := ih.2 h2
      exact ⟨t, by rw [encL, encL, List.append_assoc, ht]⟩
theorem cb_nil (b : List UInt8) : Lib.compareBytes b [] = if b = [] then 0 else 1 := by cases b <;> simp [Lib.compareBytes]
/-- What lies from a text on, up to it with a last byte of ones: what begins with it. -/
theorem between_pre : ∀ (b k : List UInt8), 0 ≤ Lib.compareBytes k b → Lib.compareBytes k (b ++ [255]) < 0 → b <+: k
  | [], k, _, _ => List.nil_prefix
  | x :: b, [], h, _ => by simp [Lib.compareBytes] at h
  | x :: b, y :: k, h1, h2 => by
    rw [List.cons_append] at h2
    simp only [Lib.compareBytes] at h1 h2
    by_cases c1 : y < x
    · simp [c1] at h1
    · by_cases c2 : x < y
      · simp [c1, c2] at h2
      · have e : y = x := by
          rw [UInt8.lt_iff_toNat_lt] at c1 c2
          exact UInt8.toNat_inj.1 (by omega)
        subst e
        simp only [c1, if_false] at h1 h2
        exact List.prefix_cons_inj _ |>.2 (between_pre b k h1 h2)
theorem cb_self : ∀ (b : List UInt8), Lib.compareBytes b b = 0
  | [] => rfl
  | x :: b => by simp [Lib.compareBytes, cb_self b]
theorem cb_app (b s t : List UInt8) : Lib.compareBytes (b ++ s) (b ++ t) = Lib.compareBytes s t := by
  rw [compare_append b b s t rfl, cb_self, if_pos rfl]
theorem enc_head (v : Val) : ∃ x r, encV v = x :: r ∧ x < 255 := by
  unfold encV
  split
  · exact ⟨1, _, rfl, by decide⟩
  · exact ⟨2, _, rfl, by decide⟩
theorem pre_between (A R : List Val) (h : A <+: R) : 0 ≤ Lib.compareBytes (encL R) (encL A) ∧ Lib.compareBytes (encL R) (encL A ++ [255]) < 0 := by
  obtain ⟨T, rfl⟩ := h
  rw [encL_append]
  constructor
  · have := cb_app (encL A) (encL T) []
    rw [List.append_nil] at this
    rw [this, cb_nil]
    split <;> omega
  · rw [cb_app]
    cases T with
    | nil => simp [encL, Lib.compareBytes]
    | cons v T =>
      obtain ⟨x, r, e, hx⟩ := enc_head v
      rw [encL, e, List.cons_append]
      simp [Lib.compareBytes, hx]
theorem strOf_data (l : List UInt8) : (strOf l).data.toList = l := by simp [strOf]
/-- A key is in the range just if its values begin with the head's. -/
theorem in_range {A R : List Val} (ha : checkL A = 0) (hr : checkL R = 0) (wa : Wf A) (wr : Wf R) : (decide (0 ≤ kc (strOf (encL R)) (strOf (encL A))) && upto (strOf (encL A ++ [255])) (strOf (encL R))) = true ↔ A <+: R := by
  have e1 : kc (strOf (encL R)) (strOf (encL A)) = Lib.compareBytes (encL R) (encL A) := by unfold kc; rw [strOf_data, strOf_data]
  have e2 : kc (strOf (encL R)) (strOf (encL A ++ [255])) = Lib.compareBytes (encL R) (encL A ++ [255]) := by unfold kc; rw [strOf_data, strOf_data]
  have e3 : (strOf (encL A ++ [255])).data.toList.isEmpty = false := by rw [strOf_data]; simp
  unfold upto
  rw [e1, e2, e3, Bool.false_or]
  simp only [Bool.and_eq_true, decide_eq_true_eq]
  constructor
  · rintro ⟨h1, h2⟩
    exact (pre_enc A R ha hr wa wr).1 (between_pre _ _ h1 h2)
  · exact pre_between A R
theorem encL_inj {A B : List Val} (ha : checkL A = 0) (hb : checkL B = 0) (wa : Wf A) (wb : Wf B) (h : encL A = encL B) : A = B := by
  have h1 := dec_enc A wa ha
  have h2 := dec_enc B wb hb
  rw [h, h2] at h1
  injection h1 with h1
  exact h1.symm
theorem cmpL_zero {A B : List Val} (ha : checkL A = 0) (hb : checkL B = 0) (wa : Wf A) (wb : Wf B) : cmpL A B = 0 ↔ A = B := by
  obtain ⟨_, h2⟩ := less_encL A B ha hb wa wb
  constructor
  · intro h
    rw [h] at h2
    exact encL_inj ha hb wa wb (by simpa using h2)
  · intro h; subst h; exact cmpL_self A
theorem kc_enc {A B : List Val} (ha : checkL A = 0) (hb : checkL B = 0) (wa : Wf A) (wb : Wf B) : kc (strOf (encL A)) (strOf (encL B)) = cmpL A B := by
  unfold kc; rw [strOf_data, strOf_data]; exact compare_encL A B ha hb wa wb
theorem decCode_enc {R : List Val} (hr : checkL R = 0) (wr : Wf R) : decCode (encL R) = 0 ∧ decOut (encL R) = R ∧ decAt (encL R) = 0 := by
  have h := dec_enc R wr hr
  unfold decCode decOut decAt
  rw [h]
  exact ⟨rfl, rfl, rfl⟩
theorem checkL_pre : ∀ {R : List Val} (n : Nat), checkL R = 0 → checkL (R.take n) = 0
  | [], n, _ => by simp [checkL]
  | v :: R, 0, _ => by simp [checkL]
  | v :: R, n + 1, h => by
    obtain ⟨h1, h2⟩ := checkL_cons h
    rw [List.take_succ_cons, checkL, if_pos h1]
    exact checkL_pre n h2
end Go.Proofs.Ytiicgfipmdgnhaa
