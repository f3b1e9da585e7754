/- Keys and their order; the plain trees. -/
import Derived.Test.YtanfbfmpppfbhaaB
import Derived.Lib.Bytealg
namespace Go.Proofs.Ytanfbfmpppfbhaa
set_option linter.unusedVariables false
set_option linter.unusedSimpArgs false

/-- Two numbers: -1, 0 or 1. -/
def cmpI (a b : Int) : Int := if a < b then -1 else if b < a then 1 else 0
/-- A comparison that is an order. -/
structure Good {α : Type} (c : α → α → Int) : Prop where
  range : ∀ x y, c x y = -1 ∨ c x y = 0 ∨ c x y = 1
  neg : ∀ x y, c y x = - c x y
  trans : ∀ x y z, c x y ≤ 0 → c y z ≤ 0 → c x z ≤ 0
theorem Good.strict1 {α : Type} {c : α → α → Int} (h : Good c) (x y z : α) (h1 : c x y < 0) (h2 : c y z ≤ 0) : c x z < 0 := by
  have h3 := h.trans x y z (by omega) h2
  by_cases h4 : c x z = 0
  · have h5 := h.neg x z
    have h6 := h.trans y z x h2 (by omega)
    have h7 := h.neg x y
    omega
  · omega
theorem Good.strict2 {α : Type} {c : α → α → Int} (h : Good c) (x y z : α) (h1 : c x y ≤ 0) (h2 : c y z < 0) : c x z < 0 := by
  have h3 := h.trans x y z h1 (by omega)
  by_cases h4 : c x z = 0
  · have h5 := h.neg x z
    have h6 := h.trans z x y (by omega) h1
    have h7 := h.neg y z
    omega
  · omega
theorem Good.zero {α : Type} {c : α → α → Int} (h : Good c) (x y z : α) (h1 : c x y = 0) (h2 : c y z = 0) : c x z = 0 := by
  have h3 := h.trans x y z (by omega) (by omega)
  have h4 := h.neg x y
  have h5 := h.neg y z
  have h6 := h.trans z y x (by omega) (by omega)
  have h7 := h.neg x z
  omega
/-- Lists, one by one. -/
def cmpList {α : Type} (c : α → α → Int) : List α → List α → Int
  | [], [] => 0
  | [], _ :: _ => -1
  | _ :: _, [] => 1
  | x :: a, y :: b => if c x y = 0 then cmpList c a b else c x y
theorem Good.list {α : Type} {c : α → α → Int} (hc : Good c) : Good (cmpList c) := by
  refine ⟨fun x => ?_, fun x => ?_, fun x => ?_⟩
  · induction x with
    | nil => intro y; cases y <;> simp [cmpList]
    | cons a x ih =>
      intro y
      cases y with
      | nil => simp [cmpList]
      | cons b y =>
        simp only [cmpList]
        split
        · exact ih y
        · exact hc.range a b
  · induction x with
    | nil => intro y; cases y <;> simp [cmpList]
    | cons a x ih =>
      intro y
      cases y with
      | nil => simp [cmpList]
      | cons b y =>
        simp only [cmpList]
        have h1 := hc.neg a b
        by_cases h : c a b = 0
        · rw [if_pos h, if_pos (by omega)]; exact ih y
        · rw [if_neg h, if_neg (by omega)]; exact h1
  · induction x with
    | nil =>
      intro y z h1 h2
      cases z with
      | nil => simp [cmpList]
      | cons d z => simp [cmpList]
    | cons a x ih =>
      intro y z h1 h2
      cases y with
      | nil => simp [cmpList] at h1
      | cons b y =>
        cases z with
        | nil => simp [cmpList] at h2
        | cons d z =>
          simp only [cmpList] at h1 h2 ⊢
          by_cases a1 : c a b = 0
          · rw [if_pos a1] at h1
            by_cases a2 : c b d = 0
            · rw [if_pos a2] at h2
              rw [if_pos (hc.zero a b d a1 a2)]
              exact ih y z h1 h2
            · rw [if_neg a2] at h2
              have := hc.strict2 a b d (by omega) (by omega)
              rw [if_neg (by omega)]; omega
          · rw [if_neg a1] at h1
            have h3 : c b d ≤ 0 := by
              by_cases a2 : c b d = 0
              · omega
              · rw [if_neg a2] at h2; exact h2
            have := hc.strict1 a b d (by omega) h3
            rw [if_neg (by omega)]; omega
theorem good_int {α : Type} (f : α → Int) : Good (fun x y => cmpI (f x) (f y)) := by
  refine ⟨fun x y => ?_, fun x y => ?_, fun x y z => ?_⟩
  · simp only [cmpI]; repeat' split
    all_goals simp
  · simp only [cmpI]
    rcases Int.lt_trichotomy (f x) (f y) with h | h | h
    · rw [if_neg (by omega), if_pos h, if_pos h]; rfl
    · rw [if_neg (by omega), if_neg (by omega), if_neg (by omega), if_neg (by omega)]; rfl
    · rw [if_pos h, if_neg (by omega), if_pos h]
  · simp only [cmpI]
    intro h1 h2
    repeat' split at h1
    all_goals (repeat' split at h2)
    all_goals (repeat' split)
    all_goals omega
theorem compareBytes_list (a b : List UInt8) : Lib.compareBytes a b = cmpList (fun x y => cmpI (x.toNat : Int) (y.toNat : Int)) a b := by
  induction a generalizing b with
  | nil => cases b <;> rfl
  | cons x a ih =>
    cases b with
    | nil => rfl
    | cons y b =>
      simp only [Lib.compareBytes, cmpList, UInt8.lt_iff_toNat_lt, ih]
      by_cases h1 : x.toNat < y.toNat
      · have e : cmpI (x.toNat : Int) (y.toNat : Int) = -1 := by unfold cmpI; rw [if_pos (by omega)]
        simp [h1, e]
      · by_cases h2 : y.toNat < x.toNat
        · have e : cmpI (x.toNat : Int) (y.toNat : Int) = 1 := by unfold cmpI; rw [if_neg (by omega), if_pos (by omega)]
          simp [h1, h2, e]
        · have e : cmpI (x.toNat : Int) (y.toNat : Int) = 0 := by unfold cmpI; rw [if_neg (by omega), if_neg (by omega)]
          simp [h1, h2, e]
theorem good_bytes : Good Lib.compareBytes := by
  have h := (good_int (fun x : UInt8 => (x.toNat : Int))).list
  have e : Lib.compareBytes = cmpList (fun x y : UInt8 => cmpI (x.toNat : Int) (y.toNat : Int)) := by
    funext a b; exact compareBytes_list a b
  rw [e]; exact h

theorem compareBytes_less (a b : List UInt8) : Lib.compareBytes a b = if Op.bytesLess a b = true then -1 else if a = b then 0 else 1 := by
  induction a generalizing b with
  | nil => cases b <;> simp [Lib.compareBytes, Op.bytesLess]
  | cons x a ih =>
    cases b with
    | nil => simp [Lib.compareBytes, Op.bytesLess]
    | cons y b =>
      simp only [Lib.compareBytes, Op.bytesLess, ih]
      by_cases h1 : x < y
      · simp [h1]
      · by_cases h2 : y < x
        · have h3 : ¬ x = y := by rintro rfl; exact UInt8.lt_irrefl _ h2
          simp [h1, h2, h3]
        · have h3 : x = y := by
            apply UInt8.toNat_inj.1
            rw [UInt8.lt_iff_toNat_lt] at h1 h2
            omega
          subst h3
          simp [h1]
/-- A key with its value. -/
structure It where
  key : ByteArray
  val : Int
/-- How two keys stand to each other. -/
def kc (a b : ByteArray) : Int := Lib.compareBytes a.data.toList b.data.toList
theorem kc_zero {a b : ByteArray} : kc a b = 0 ↔ a = b := by
  unfold kc
  rw [compareBytes_less]
  constructor
  · intro h
    split at h
    · cases h
    · split at h
      · rename_i e
        cases a; cases b
        simp only at e
        have := Array.toList_inj.1 e
        rw [this]
      · cases h
  · rintro rfl
    have : Op.bytesLess a.data.toList a.data.toList ≠ true := fun h => by
      have h1 := compareBytes_less a.data.toList a.data.toList
      rw [if_pos h] at h1
      have h2 := good_bytes.neg a.data.toList a.data.toList
      omega
    rw [if_neg this, if_pos rfl]
theorem kc_self (a : ByteArray) : kc a a = 0 := kc_zero.2 rfl
theorem kc_neg (a b : ByteArray) : kc b a = - kc a b := good_bytes.neg _ _
theorem kc_range (a b : ByteArray) : kc a b = -1 ∨ kc a b = 0 ∨ kc a b = 1 := good_bytes.range _ _
theorem kl_trans {a b c : ByteArray} (h1 : kc a b < 0) (h2 : kc b c < 0) : kc a c < 0 := good_bytes.strict1 _ _ _ h1 (Int.le_of_lt h2)
theorem kl_irr {a : ByteArray} (h : kc a a < 0) : False := by rw [kc_self] at h; omega
theorem kl_asy {a b : ByteArray} (h1 : kc a b < 0) (h2 : kc b a < 0) : False := kl_irr (kl_trans h1 h2)
theorem kl_gt {a b : ByteArray} (h : ¬ kc a b < 0) (hn : a ≠ b) : kc b a < 0 := by
  have h1 := kc_neg a b
  have h2 := kc_range a b
  have h3 : kc a b ≠ 0 := fun e => hn (kc_zero.1 e)
  omega
theorem bytesLess_kc (a b : ByteArray) : Op.bytesLess a.data.toList b.data.toList = decide (kc a b < 0) := by
  unfold kc
  rw [compareBytes_less]
  by_cases h : Op.bytesLess a.data.toList b.data.toList = true
  · rw [if_pos h, h]; rfl
  · rw [if_neg h]
    have : Op.bytesLess a.data.toList b.data.toList = false := by simpa using h
    rw [this]
    split <;> rfl
/-- Rising. -/
def Srt (L : List It) : Prop := L.Pairwise (fun x y => kc x.key y.key < 0)
theorem Srt.app {A B : List It} (h : Srt (A ++ B)) : Srt A ∧ Srt B ∧ ∀ x ∈ A, ∀ y ∈ B, kc x.key y.key < 0 := List.pairwise_append.1 h
theorem Srt.mk {A B : List It} (h1 : Srt A) (h2 : Srt B) (h3 : ∀ x ∈ A, ∀ y ∈ B, kc x.key y.key < 0) : Srt (A ++ B) := List.pairwise_append.2 ⟨h1, h2, h3⟩
theorem Srt.cons {x : It} {A : List It} (h : Srt (x :: A)) : (∀ y ∈ A, kc x.key y.key < 0) ∧ Srt A := List.pairwise_cons.1 h
theorem Srt.mkc {x : It} {A : List It} (h1 : ∀ y ∈ A, kc x.key y.key < 0) (h2 : Srt A) : Srt (x :: A) := List.pairwise_cons.2 ⟨h1, h2⟩
/-- The keys below, and those that are not. -/
def Below (k : ByteArray) (L : List It) : Prop := ∀ x ∈ L, kc x.key k < 0
def Above (k : ByteArray) (L : List It) : Prop := ∀ x ∈ L, kc k x.key < 0
/-- A key more, one less, another value. -/
def InsR (k : ByteArray) (v : Int) (F F' : List It) : Prop := ∃ A C, F = A ++ C ∧ F' = A ++ ⟨k, v⟩ :: C ∧ Below k A ∧ Above k C
def DelR (k : ByteArray) (F F' : List It) : Prop := ∃ A v C, F = A ++ ⟨k, v⟩ :: C ∧ F' = A ++ C ∧ Below k A ∧ Above k C
def UpdR (k : ByteArray) (v : Int) (F F' : List It) : Prop := ∃ A u C, F = A ++ ⟨k, u⟩ :: C ∧ F' = A ++ ⟨k, v⟩ :: C ∧ Below k A ∧ Above k C
theorem Below.app {k : ByteArray} {A B : List It} (h1 : Below k A) (h2 : Below k B) : Below k (A ++ B) := fun x hx => (List.mem_append.1 hx).elim (h1 x) (h2 x)
theorem Above.app {k : ByteArray} {A B : List It} (h1 : Above k A) (h2 : Above k B) : Above k (A ++ B) := fun x hx => (List.mem_append.1 hx).elim (h1 x) (h2 x)
theorem InsR.within {k : ByteArray} {v : Int} {F F' P Q : List It} (h : InsR k v F F') (hp : Below k P) (hq : Above k Q) : InsR k v (P ++ F ++ Q) (P ++ F' ++ Q) := by
  obtain ⟨A, C, rfl, rfl, h1, h2⟩ := h
  exact ⟨P ++ A, C ++ Q, by simp, by simp, hp.app h1, h2.app hq⟩
theorem DelR.within {k : ByteArray} {F F' P Q : List It} (h : DelR k F F') (hp : Below k P) (hq : Above k Q) : DelR k (P ++ F ++ Q) (P ++ F' ++ Q) := by
  obtain ⟨A, u, C, rfl, rfl, h1, h2⟩ := h
  exact ⟨P ++ A, u, C ++ Q, by simp, by simp, hp.app h1, h2.app hq⟩
theorem UpdR.within {k : ByteArray} {v : Int} {F F' P Q : List It} (h : UpdR k v F F') (hp : Below k P) (hq : Above k Q) : UpdR k v (P ++ F ++ Q) (P ++ F' ++ Q) := by
  obtain ⟨A, u, C, rfl, rfl, h1, h2⟩ := h
  exact ⟨P ++ A, u, C ++ Q, by simp, by simp, hp.app h1, h2.app hq⟩
theorem InsR.srt {k : ByteArray} {v : Int} {F F' : List It} (h : InsR k v F F') (hs : Srt F) : Srt F' := by
  obtain ⟨A, C, rfl, rfl, h1, h2⟩ := h
  obtain ⟨a, c, b⟩ := hs.app
  refine Srt.mk a (Srt.mkc h2 c) (fun x hx y hy => ?_)
  rcases List.mem_cons.1 hy with rfl | hy
  · exact h1 x hx
  · exact b x hx y hy
theorem DelR.srt {k : ByteArray} {F F' : List It} (h : DelR k F F') (hs : Srt F) : Srt F' := by
  obtain ⟨A, u, C, rfl, rfl, h1, h2⟩ := h
  obtain ⟨a, c, b⟩ := hs.app
  exact Srt.mk a c.cons.2 (fun x hx y hy => b x hx y (List.mem_cons_of_mem _ hy))
theorem UpdR.srt {k : ByteArray} {v : Int} {F F' : List It} (h : UpdR k v F F') (hs : Srt F) : Srt F' := by
  obtain ⟨A, u, C, rfl, rfl, h1, h2⟩ := h
  obtain ⟨a, c, b⟩ := hs.app
  refine Srt.mk a (Srt.mkc h2 c.cons.2) (fun x hx y hy => ?_)
  rcases List.mem_cons.1 hy with rfl | hy
  · exact h1 x hx
  · exact b x hx y (List.mem_cons_of_mem _ hy)
/-- Kids and keys, in turn. -/
def weave : List (List It) → List It → List It
  | [], L => L
  | f :: _, [] => f
  | f :: fs, x :: L => f ++ x :: weave fs L
def pre : List (List It) → List It → List It
  | f :: A, x :: C => f ++ x :: pre A C
  | _, _ => []
def post : List It → List (List It) → List It
  | x :: D, f :: B => x :: (f ++ post D B)
  | _, _ => []
theorem weave_one (f : List It) : ∀ (B : List (List It)) (D : List It), B.length = D.length → weave (f :: B) D = f ++ post D B := by
  intro B
  induction B generalizing f with
  | nil => intro D hD; obtain rfl : D = [] := List.eq_nil_of_length_eq_zero hD.symm; simp [weave, post]
  | cons b B ih =>
    intro D hD
    cases D with
    | nil => simp at hD
    | cons x D => rw [weave, ih b D (by simpa using hD), post]
theorem weave_at (f : List It) (B : List (List It)) (D : List It) (hB : B.length = D.length) : ∀ (A : List (List It)) (C : List It), A.length = C.length → weave (A ++ f :: B) (C ++ D) = pre A C ++ f ++ post D B := by
  intro A
  induction A with
  | nil => intro C hC; obtain rfl : C = [] := List.eq_nil_of_length_eq_zero hC.symm; simpa [pre] using weave_one f B D hB
  | cons a A ih =>
    intro C hC
    cases C with
    | nil => simp at hC
    | cons x C => rw [List.cons_append, List.cons_append, weave, ih C (by simpa using hC), pre]; simp
theorem pre_snoc : ∀ (A : List (List It)) (C : List It) (f : List It) (x : It), A.length = C.length → pre (A ++ [f]) (C ++ [x]) = pre A C ++ f ++ [x] := by
  intro A
  induction A with
  | nil => intro C f x hC; obtain rfl : C = [] := List.eq_nil_of_length_eq_zero hC.symm; simp [pre]
  | cons a A ih =>
    intro C f x hC
    cases C with
    | nil => simp at hC
    | cons y C => rw [List.cons_append, List.cons_append, pre, ih C f x (by simpa using hC), pre]; simp
/-- What stands ahead of a place is below, what stands behind is above. -/
theorem pre_below {k : ByteArray} {R : List It} : ∀ {A : List (List It)} {C : List It}, A.length = C.length → Srt (pre A C ++ R) → Below k C → Below k (pre A C) := by
  intro A
  induction A with
  | nil => intro C hC _ _ x hx; simp [pre] at hx
  | cons a A ih =>
    intro C hC hs hb
    cases C with
    | nil => simp at hC
    | cons y C =>
      rw [pre] at hs ⊢
      have hs' : Srt (a ++ (y :: (pre A C ++ R))) := by simpa using hs
      obtain ⟨_, h2, h3⟩ := hs'.app
      have hy := hb y (List.mem_cons_self ..)
      intro x hx
      rcases List.mem_append.1 hx with hx | hx
      · exact kl_trans (h3 x hx y (List.mem_cons_self ..)) hy
      · rcases List.mem_cons.1 hx with rfl | hx
        · exact hy
        · exact ih (by simpa using hC) h2.cons.2 (fun z hz => hb z (List.mem_cons_of_mem _ hz)) x hx
theorem post_above {k : ByteArray} : ∀ {D : List It} {B : List (List It)}, B.length = D.length → Srt (post D B) → Above k D → Above k (post D B) := by
  intro D
  induction D with
  | nil => intro B hB _ _ x hx; cases B <;> simp [post] at hx
  | cons y D ih =>
    intro B hB hs hb
    cases B with
    | nil => simp at hB
    | cons b B =>
      rw [post] at hs ⊢
      have hy := hb y (List.mem_cons_self ..)
      obtain ⟨h1, h2⟩ := hs.cons
      intro x hx
      rcases List.mem_cons.1 hx with rfl | hx
      · exact hy
      · exact kl_trans hy (h1 x hx)
end Go.Proofs.Ytanfbfmpppfbhaa
