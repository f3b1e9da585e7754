/- Values and their order, plainly. -/
import Derived.Test.YtlapifncplbcnaaGreatB
import Derived.Lib.Bytealg
namespace Go.Proofs.YtlapifncplbcnaaGreat
set_option linter.unusedVariables false
set_option linter.unusedSimpArgs false

theorem wrap_fit {x : Int} (h1 : -9223372036854775808 ≤ x) (h2 : x ≤ 9223372036854775807) : IntKind.i64.wrap x = x := by rw [IntKind.wrap_i64]; omega
/-- Two numbers: -1, 0 or 1. -/
def cmpI (a b : Int) : Int := if a < b then -1 else if b < a then 1 else 0
/-- A comparison that is an order. -/
structure Good {α : Type} (c : α → α → Int) : Prop where
  range : ∀ x y, c x y = -1 ∨ c x y = 0 ∨ c x y = 1
  neg : ∀ x y, c y x = - c x y
  trans : ∀ x y z, c x y ≤ 0 → c y z ≤ 0 → c x z ≤ 0
theorem Good.strict1 {α : Type} {c : α → α → Int} (h : Good c) (x y z : α) (h1 : c x y < 0) (h2 : c y z ≤ 0) : c x z < 0 := by
  have h3 := h.trans x y z (by omega) h2
  by_cases h4 : c x z = 0
  · have h5 := h.neg x z
    have h6 := h.trans y z x h2 (by omega)
    have h7 := h.neg x y
    omega
  · omega
theorem Good.strict2 {α : Type} {c : α → α → Int} (h : Good c) (x y z : α) (h1 : c x y ≤ 0) (h2 : c y z < 0) : c x z < 0 := by
  have h3 := h.trans x y z h1 (by omega)
  by_cases h4 : c x z = 0
  · have h5 := h.neg x z
    have h6 := h.trans z x y (by omega) h1
    have h7 := h.neg y z
    omega
  · omega
theorem Good.zero {α : Type} {c : α → α → Int} (h : Good c) (x y z : α) (h1 : c x y = 0) (h2 : c y z = 0) : c x z = 0 := by
  have h3 := h.trans x y z (by omega) (by omega)
  have h4 := h.neg x y
  have h5 := h.neg y z
  have h6 := h.trans z y x (by omega) (by omega)
  have h7 := h.neg x z
  omega
/-- Lists, one by one. -/
def cmpList {α : Type} (c : α → α → Int) : List α → List α → Int
  | [], [] => 0
  | [], _ :: _ => -1
  | _ :: _, [] => 1
  | x :: a, y :: b => if c x y = 0 then cmpList c a b else c x y
theorem Good.list {α : Type} {c : α → α → Int} (hc : Good c) : Good (cmpList c) := by
  refine ⟨fun x => ?_, fun x => ?_, fun x => ?_⟩
  · induction x with
    | nil => intro y; cases y <;> simp [cmpList]
    | cons a x ih =>
      intro y
      cases y with
      | nil => simp [cmpList]
      | cons b y =>
        simp only [cmpList]
        split
        · exact ih y
        · exact hc.range a b
  · induction x with
    | nil => intro y; cases y <;> simp [cmpList]
    | cons a x ih =>
      intro y
      cases y with
      | nil => simp [cmpList]
      | cons b y =>
        simp only [cmpList]
        have h1 := hc.neg a b
        by_cases h : c a b = 0
        · rw [if_pos h, if_pos (by omega)]; exact ih y
        · rw [if_neg h, if_neg (by omega)]; exact h1
  · induction x with
    | nil =>
      intro y z h1 h2
      cases z with
      | nil => simp [cmpList]
      | cons d z => simp [cmpList]
    | cons a x ih =>
      intro y z h1 h2
      cases y with
      | nil => simp [cmpList] at h1
      | cons b y =>
        cases z with
        | nil => simp [cmpList] at h2
        | cons d z =>
          simp only [cmpList] at h1 h2 ⊢
          by_cases a1 : c a b = 0
          · rw [if_pos a1] at h1
            by_cases a2 : c b d = 0
            · rw [if_pos a2] at h2
              rw [if_pos (hc.zero a b d a1 a2)]
              exact ih y z h1 h2
            · rw [if_neg a2] at h2
              have := hc.strict2 a b d (by omega) (by omega)
              rw [if_neg (by omega)]; omega
          · rw [if_neg a1] at h1
            have h3 : c b d ≤ 0 := by
              by_cases a2 : c b d = 0
              · omega
              · rw [if_neg a2] at h2; exact h2
            have := hc.strict1 a b d (by omega) h3
            rw [if_neg (by omega)]; omega
theorem good_int {α : Type} (f : α → Int) : Good (fun x y => cmpI (f x) (f y)) := by
  refine ⟨fun x y => ?_, fun x y => ?_, fun x y z => ?_⟩
  · simp only [cmpI]; repeat' split
    all_goals simp
  · simp only [cmpI]
    rcases Int.lt_trichotomy (f x) (f y) with h | h | h
    · rw [if_neg (by omega), if_pos h, if_pos h]; rfl
    · rw [if_neg (by omega), if_neg (by omega), if_neg (by omega), if_neg (by omega)]; rfl
    · rw [if_pos h, if_neg (by omega), if_pos h]
  · simp only [cmpI]
    intro h1 h2
    repeat' split at h1
    all_goals (repeat' split at h2)
    all_goals (repeat' split)
    all_goals omega
theorem compareBytes_list (a b : List UInt8) : Lib.compareBytes a b = cmpList (fun x y => cmpI (x.toNat : Int) (y.toNat : Int)) a b := by
  induction a generalizing b with
  | nil => cases b <;> rfl
  | cons x a ih =>
    cases b with
    | nil => rfl
    | cons y b =>
      simp only [Lib.compareBytes, cmpList, UInt8.lt_iff_toNat_lt, ih]
      by_cases h1 : x.toNat < y.toNat
      · have e : cmpI (x.toNat : Int) (y.toNat : Int) = -1 := by unfold cmpI; rw [if_pos (by omega)]
        simp [h1, e]
      · by_cases h2 : y.toNat < x.toNat
        · have e : cmpI (x.toNat : Int) (y.toNat : Int) = 1 := by unfold cmpI; rw [if_neg (by omega), if_pos (by omega)]
          simp [h1, h2, e]
        · have e : cmpI (x.toNat : Int) (y.toNat : Int) = 0 := by unfold cmpI; rw [if_neg (by omega), if_neg (by omega)]
          simp [h1, h2, e]
theorem good_bytes : Good Lib.compareBytes := by
  have h := (good_int (fun x : UInt8 => (x.toNat : Int))).list
  have e : Lib.compareBytes = cmpList (fun x y : UInt8 => cmpI (x.toNat : Int) (y.toNat : Int)) := by
    funext a b; exact compareBytes_list a b
  rw [e]; exact h
theorem compareBytes_less (a b : List UInt8) : Lib.compareBytes a b = if Op.bytesLess a b = true then -1 else if a = b then 0 else 1 := by
  induction a generalizing b with
  | nil => cases b <;> simp [Lib.compareBytes, Op.bytesLess]
  | cons x a ih =>
    cases b with
    | nil => simp [Lib.compareBytes, Op.bytesLess]
    | cons y b =>
      simp only [Lib.compareBytes, Op.bytesLess, ih]
      by_cases h1 : x < y
      · simp [h1]
      · by_cases h2 : y < x
        · have h3 : ¬ x = y := by rintro rfl; exact UInt8.lt_irrefl _ h2
          simp [h1, h2, h3]
        · have h3 : x = y := by
            apply UInt8.toNat_inj.1
            rw [UInt8.lt_iff_toNat_lt] at h1 h2
            omega
          subst h3
          simp [h1]
/-- A value. -/
structure Val where
  kind : Int
  num : Int
  text : List UInt8
/-- The string of these bytes. -/
def strOf (l : List UInt8) : ByteArray := ⟨l.toArray⟩
theorem strOf_inj {a b : List UInt8} (h : strOf a = strOf b) : a = b := by
  unfold strOf at h
  injection h with h
  simpa using congrArg Array.toList h
theorem toList_strOf (l : List UInt8) : (strOf l).toList = l := by
  rw [ByteArray.toList_eq]; simp [strOf]
theorem size_strOf (l : List UInt8) : (strOf l).size = l.length := by simp [strOf, ByteArray.size]
/-- Two values: -1, 0 or 1. -/
def cmpV (a b : Val) : Int :=
  if a.kind < b.kind then -1 else if b.kind < a.kind then 1
  else if a.num < b.num then -1 else if b.num < a.num then 1
  else if Op.bytesLess a.text b.text = true then -1 else if a.text = b.text then 0 else 1
/-- Two lists: -1, 0 or 1. -/
def cmpL : List Val → List Val → Int
  | [], [] => 0
  | [], _ :: _ => -1
  | _ :: _, [] => 1
  | a :: x, b :: y => if cmpV a b = 0 then cmpL x y else cmpV a b
theorem less_irr (l : List UInt8) : Op.bytesLess l l = false := by
  induction l with
  | nil => rfl
  | cons b r ih => simp [Op.bytesLess, ih, UInt8.lt_irrefl]
theorem cmpV_self (a : Val) : cmpV a a = 0 := by simp [cmpV, less_irr]
theorem cmpV_range (a b : Val) : cmpV a b = -1 ∨ cmpV a b = 0 ∨ cmpV a b = 1 := by
  unfold cmpV
  repeat' split
  all_goals simp
theorem cmpL_self (a : List Val) : cmpL a a = 0 := by
  induction a with
  | nil => rfl
  | cons v r ih => simp [cmpL, cmpV_self, ih]
theorem cmpL_drop (a b : List Val) (k : Nat) (x y : Val) (hx : a[k]? = some x) (hy : b[k]? = some y) : cmpL (a.drop k) (b.drop k) = if cmpV x y = 0 then cmpL (a.drop (k + 1)) (b.drop (k + 1)) else cmpV x y := by
  obtain ⟨h1, h2⟩ := List.getElem?_eq_some_iff.1 hx
  obtain ⟨h3, h4⟩ := List.getElem?_eq_some_iff.1 hy
  rw [List.drop_eq_getElem_cons h1, List.drop_eq_getElem_cons h3, h2, h4, cmpL]
/-- The first that is not 0. -/
def firstOf : List Int → Int
  | [] => 0
  | x :: r => if x = 0 then firstOf r else x
theorem firstOf_drop (xs : List Int) (k : Nat) (x : Int) (h : xs[k]? = some x) : firstOf (xs.drop k) = if x = 0 then firstOf (xs.drop (k + 1)) else x := by
  obtain ⟨h1, h2⟩ := List.getElem?_eq_some_iff.1 h
  rw [List.drop_eq_getElem_cons h1, h2, firstOf]
theorem cmpV_first (a b : Val) : firstOf [cmpI a.kind b.kind, cmpI a.num b.num, Lib.compareBytes a.text b.text] = cmpV a b := by
  rw [compareBytes_less]
  simp only [firstOf, cmpI, cmpV]
  by_cases h1 : a.kind < b.kind
  · simp [h1]
  · by_cases h2 : b.kind < a.kind
    · simp [h1, h2]
    · by_cases h3 : a.num < b.num
      · simp [h1, h2, h3]
      · by_cases h4 : b.num < a.num
        · simp [h1, h2, h3, h4]
        · simp only [h1, h2, h3, h4, if_false, if_true]
          split <;> simp
/-- First one, then another. -/
def lex {α : Type} (c d : α → α → Int) (x y : α) : Int := if c x y = 0 then d x y else c x y
theorem Good.lex {α : Type} {c d : α → α → Int} (hc : Good c) (hd : Good d) : Good (lex c d) := by
  refine ⟨fun x y => ?_, fun x y => ?_, fun x y z h1 h2 => ?_⟩
  · unfold Go.Proofs.YtlapifncplbcnaaGreat.lex
    split
    · exact hd.range x y
    · exact hc.range x y
  · unfold Go.Proofs.YtlapifncplbcnaaGreat.lex
    have h1 := hc.neg x y
    have h2 := hd.neg x y
    by_cases h : c x y = 0
    · rw [if_pos h, if_pos (by omega)]; exact h2
    · rw [if_neg h, if_neg (by omega)]; exact h1
  · unfold Go.Proofs.YtlapifncplbcnaaGreat.lex at h1 h2 ⊢
    by_cases a1 : c x y = 0
    · rw [if_pos a1] at h1
      by_cases a2 : c y z = 0
      · rw [if_pos a2] at h2
        rw [if_pos (hc.zero x y z a1 a2)]
        exact hd.trans x y z h1 h2
      · rw [if_neg a2] at h2
        have := hc.strict2 x y z (by omega) (by omega)
        rw [if_neg (by omega)]; omega
    · rw [if_neg a1] at h1
      have h3 : c y z ≤ 0 := by
        by_cases a2 : c y z = 0
        · omega
        · rw [if_neg a2] at h2; exact h2
      have := hc.strict1 x y z (by omega) h3
      rw [if_neg (by omega)]; omega
theorem good_text : Good (fun x y : Val => Lib.compareBytes x.text y.text) :=
  ⟨fun _ _ => good_bytes.range _ _, fun _ _ => good_bytes.neg _ _, fun _ _ _ => good_bytes.trans _ _ _⟩
theorem cmpV_lex (a b : Val) : cmpV a b = lex (fun x y => cmpI x.kind y.kind) (lex (fun x y => cmpI x.num y.num) (fun x y => Lib.compareBytes x.text y.text)) a b := by
  rw [← cmpV_first]
  simp only [firstOf, lex]
  split
  · split
    · split
      · rename_i h; rw [h]
      · rfl
    · rfl
  · rfl
theorem good_val : Good cmpV := by
  have h := (good_int (fun x : Val => x.kind)).lex ((good_int (fun x : Val => x.num)).lex good_text)
  have e : cmpV = lex (fun x y => cmpI x.kind y.kind) (lex (fun x y => cmpI x.num y.num) (fun x y => Lib.compareBytes x.text y.text)) := by
    funext a b; exact cmpV_lex a b
  rw [e]; exact h
theorem cmpL_list (a b : List Val) : cmpL a b = cmpList cmpV a b := by
  induction a generalizing b with
  | nil => cases b <;> rfl
  | cons x a ih =>
    cases b with
    | nil => rfl
    | cons y b => simp only [cmpL, cmpList, ih]
theorem good_vals : Good cmpL := by
  have h := good_val.list
  have e : cmpL = cmpList cmpV := by funext a b; exact cmpL_list a b
  rw [e]; exact h
theorem bytes_zero {a b : List UInt8} : Lib.compareBytes a b = 0 ↔ a = b := by
  rw [compareBytes_less]
  constructor
  · intro h
    split at h
    · cases h
    · split at h
      · assumption
      · cases h
  · intro h
    subst h
    simp [less_irr]
theorem cmpV_zero {a b : Val} : cmpV a b = 0 ↔ a = b := by
  constructor
  · intro h
    obtain ⟨k, n, t⟩ := a
    obtain ⟨k', n', t'⟩ := b
    unfold cmpV at h
    simp only at h
    split at h
    · cases h
    · split at h
      · cases h
      · split at h
        · cases h
        · split at h
          · cases h
          · split at h
            · cases h
            · split at h
              · rename_i h1 h2 h3 h4 h5 h6
                have e1 : k = k' := by omega
                have e2 : n = n' := by omega
                rw [e1, e2, h6]
              · cases h
  · intro h; rw [h]; exact cmpV_self b
theorem cmpL_zero : ∀ {a b : List Val}, cmpL a b = 0 ↔ a = b
  | [], [] => by simp [cmpL]
  | [], y :: b => by simp [cmpL]
  | x :: a, [] => by simp [cmpL]
  | x :: a, y :: b => by
    unfold cmpL
    by_cases h : cmpV x y = 0
    · rw [if_pos h, cmpL_zero, cmpV_zero.1 h]
      simp
    · rw [if_neg h]
      constructor
      · intro h2; exact absurd h2 h
      · intro h2
        injection h2 with h3 h4
        exact absurd (cmpV_zero.2 h3) h
end Go.Proofs.YtlapifncplbcnaaGreat
