/- Keys and their order; the plain trees. -/
import Derived.Test.YtigkinakhijfoaaGreatB
import Derived.Lib.Bytealg
import Derived.Test.YtigkinakhijfoaaGreatKr
import Derived.Test.YtigkinakhijfoaaGreatJl
import Derived.BigQuiet
import Derived.Deep.QuietTactic
namespace Go.Proofs.YtigkinakhijfoaaGreat
set_option linter.unusedVariables false
set_option linter.unusedSimpArgs false

/-- Two numbers: -1, 0 or 1. -/
def cmpI (a b : Int) : Int := if a < b then -1 else if b < a then 1 else 0
/-- A comparison that is an order. -/
structure Good {α : Type} (c : α → α → Int) : Prop where
  range : ∀ x y, c x y = -1 ∨ c x y = 0 ∨ c x y = 1
  neg : ∀ x y, c y x = - c x y
  trans : ∀ x y z, c x y ≤ 0 → c y z ≤ 0 → c x z ≤ 0
theorem Good.strict1 {α : Type} {c : α → α → Int} (h : Good c) (x y z : α) (h1 : c x y < 0) (h2 : c y z ≤ 0) : c x z < 0 := by
  have h3 := h.trans x y z (by omega) h2
  by_cases h4 : c x z = 0
  · have h5 := h.neg x z
    have h6 := h.trans y z x h2 (by omega)
    have h7 := h.neg x y
    omega
  · omega
theorem Good.strict2 {α : Type} {c : α → α → Int} (h : Good c) (x y z : α) (h1 : c x y ≤ 0) (h2 : c y z < 0) : c x z < 0 := by
  have h3 := h.trans x y z h1 (by omega)
  by_cases h4 : c x z = 0
  · have h5 := h.neg x z
    have h6 := h.trans z x y (by omega) h1
    have h7 := h.neg y z
    omega
  · omega
theorem Good.zero {α : Type} {c : α → α → Int} (h : Good c) (x y z : α) (h1 : c x y = 0) (h2 : c y z = 0) : c x z = 0 := by
  have h3 := h.trans x y z (by omega) (by omega)
  have h4 := h.neg x y
  have h5 := h.neg y z
  have h6 := h.trans z y x (by omega) (by omega)
  have h7 := h.neg x z
  omega
/-- Lists, one by one. -/
def cmpList {α : Type} (c : α → α → Int) : List α → List α → Int
  | [], [] => 0
  | [], _ :: _ => -1
  | _ :: _, [] => 1
  | x :: a, y :: b => if c x y = 0 then cmpList c a b else c x y
theorem Good.list {α : Type} {c : α → α → Int} (hc : Good c) : Good (cmpList c) := by
  refine ⟨fun x => ?_, fun x => ?_, fun x => ?_⟩
  · induction x with
    | nil => intro y; cases y <;> simp [cmpList]
    | cons a x ih =>
      intro y
      cases y with
      | nil => simp [cmpList]
      | cons b y =>
        simp only [cmpList]
        split
        · exact ih y
        · exact hc.range a b
  · induction x with
    | nil => intro y; cases y <;> simp [cmpList]
    | cons a x ih =>
      intro y
      cases y with
      | nil => simp [cmpList]
      | cons b y =>
        simp only [cmpList]
        have h1 := hc.neg a b
        by_cases h : c a b = 0
        · rw [if_pos h, if_pos (by omega)]; exact ih y
        · rw [if_neg h, if_neg (by omega)]; exact h1
  · induction x with
    | nil =>
      intro y z h1 h2
      cases z with
      | nil => simp [cmpList]
      | cons d z => simp [cmpList]
    | cons a x ih =>
      intro y z h1 h2
      cases y with
      | nil => simp [cmpList] at h1
      | cons b y =>
        cases z with
        | nil => simp [cmpList] at h2
        | cons d z =>
          simp only [cmpList] at h1 h2 ⊢
          by_cases a1 : c a b = 0
          · rw [if_pos a1] at h1
            by_cases a2 : c b d = 0
            · rw [if_pos a2] at h2
              rw [if_pos (hc.zero a b d a1 a2)]
              exact ih y z h1 h2
            · rw [if_neg a2] at h2
              have := hc.strict2 a b d (by omega) (by omega)
              rw [if_neg (by omega)]; omega
          · rw [if_neg a1] at h1
            have h3 : c b d ≤ 0 := by
              by_cases a2 : c b d = 0
              · omega
              · rw [if_neg a2] at h2; exact h2
            have := hc.strict1 a b d (by omega) h3
            rw [if_neg (by omega)]; omega
theorem good_int {α : Type} (f : α → Int) : Good (fun x y => cmpI (f x) (f y)) := by
  refine ⟨fun x y => ?_, fun x y => ?_, fun x y z => ?_⟩
  · simp only [cmpI]; repeat' split
    all_goals simp
  · simp only [cmpI]
    rcases Int.lt_trichotomy (f x) (f y) with h | h | h
    · rw [if_neg (by omega), if_pos h, if_pos h]; rfl
    · rw [if_neg (by omega), if_neg (by omega), if_neg (by omega), if_neg (by omega)]; rfl
    · rw [if_pos h, if_neg (by omega), if_pos h]
  · simp only [cmpI]
    intro h1 h2
    repeat' split at h1
    all_goals (repeat' split at h2)
    all_goals (repeat' split)
    all_goals omega
theorem compareBytes_list (a b : List UInt8) : Lib.compareBytes a b = cmpList (fun x y => cmpI (x.toNat : Int) (y.toNat : Int)) a b := by
  induction a generalizing b with
  | nil => cases b <;> rfl
  | cons x a ih =>
    cases b with
    | nil => rfl
    | cons y b =>
      simp only [Lib.compareBytes, cmpList, UInt8.lt_iff_toNat_lt, ih]
      by_cases h1 : x.toNat < y.toNat
      · have e : cmpI (x.toNat : Int) (y.toNat : Int) = -1 := by unfold cmpI; rw [if_pos (by omega)]
        simp [h1, e]
      · by_cases h2 : y.toNat < x.toNat
        · have e : cmpI (x.toNat : Int) (y.toNat : Int) = 1 := by unfold cmpI; rw [if_neg (by omega), if_pos (by omega)]
          simp [h1, h2, e]
        · have e : cmpI (x.toNat : Int) (y.toNat : Int) = 0 := by unfold cmpI; rw [if_neg (by omega), if_neg (by omega)]
          simp [h1, h2, e]
theorem good_bytes : Good Lib.compareBytes := by
  have h := (good_int (fun x : UInt8 => (x.toNat : Int))).list
  have e : Lib.compareBytes = cmpList (fun x y : UInt8 => cmpI (x.toNat : Int) (y.toNat : Int)) := by
    funext a b; exact compareBytes_list a b
  rw [e]; exact h

theorem compareBytes_less (a b : List UInt8) : Lib.compareBytes a b = if Op.bytesLess a b = true then -1 else if a = b then 0 else 1 := by
  induction a generalizing b with
  | nil => cases b <;> simp [Lib.compareBytes, Op.bytesLess]
  | cons x a ih =>
    cases b with
    | nil => simp [Lib.compareBytes, Op.bytesLess]
    | cons y b =>
      simp only [Lib.compareBytes, Op.bytesLess, ih]
      by_cases h1 : x < y
      · simp [h1]
      · by_cases h2 : y < x
        · have h3 : ¬ x = y := by rintro rfl; exact UInt8.lt_irrefl _ h2
          simp [h1, h2, h3]
        · have h3 : x = y := by
            apply UInt8.toNat_inj.1
            rw [UInt8.lt_iff_toNat_lt] at h1 h2
            omega
          subst h3
          simp [h1]
/-- A key with its value. -/
structure It where
  key : ByteArray
  val : Int
/-- How two keys stand to each other. -/
def kc (a b : ByteArray) : Int := Lib.compareBytes a.data.toList b.data.toList
theorem kc_zero {a b : ByteArray} : kc a b = 0 ↔ a = b := by
  unfold kc
  rw [compareBytes_less]
  constructor
  · intro h
    split at h
    · cases h
    · split at h
      · rename_i e
        cases a; cases b
        simp only at e
        have := Array.toList_inj.1 e
        rw [this]
      · cases h
  · rintro rfl
    have : Op.bytesLess a.data.toList a.data.toList ≠ true := fun h => by
      have h1 := compareBytes_less a.data.toList a.data.toList
      rw [if_pos h] at h1
      have h2 := good_bytes.neg a.data.toList a.data.toList
      omega
    rw [if_neg this, if_pos rfl]
theorem kc_self (a : ByteArray) : kc a a = 0 := kc_zero.2 rfl
theorem kc_neg (a b : ByteArray) : kc b a = - kc a b := good_bytes.neg _ _
theorem kc_range (a b : ByteArray) : kc a b = -1 ∨ kc a b = 0 ∨ kc a b = 1 := good_bytes.range _ _
theorem kl_trans {a b c : ByteArray} (h1 : kc a b < 0) (h2 : kc b c < 0) : kc a c < 0 := good_bytes.strict1 _ _ _ h1 (Int.le_of_lt h2)
theorem kl_irr {a : ByteArray} (h : kc a a < 0) : False := by rw [kc_self] at h; omega
theorem kl_asy {a b : ByteArray} (h1 : kc a b < 0) (h2 : kc b a < 0) : False := kl_irr (kl_trans h1 h2)
theorem kl_gt {a b : ByteArray} (h : ¬ kc a b < 0) (hn : a ≠ b) : kc b a < 0 := by
  have h1 := kc_neg a b
  have h2 := kc_range a b
  have h3 : kc a b ≠ 0 := fun e => hn (kc_zero.1 e)
  omega
theorem bytesLess_kc (a b : ByteArray) : Op.bytesLess a.data.toList b.data.toList = decide (kc a b < 0) := by
  unfold kc
  rw [compareBytes_less]
  by_cases h : Op.bytesLess a.data.toList b.data.toList = true
  · rw [if_pos h, h]; rfl
  · rw [if_neg h]
    have : Op.bytesLess a.data.toList b.data.toList = false := by simpa using h
    rw [this]
    split <;> rfl
/-- Rising. -/
def Srt (L : List It) : Prop := L.Pairwise (fun x y => kc x.key y.key < 0)
theorem Srt.app {A B : List It} (h : Srt (A ++ B)) : Srt A ∧ Srt B ∧ ∀ x ∈ A, ∀ y ∈ B, kc x.key y.key < 0 := List.pairwise_append.1 h
theorem Srt.mk {A B : List It} (h1 : Srt A) (h2 : Srt B) (h3 : ∀ x ∈ A, ∀ y ∈ B, kc x.key y.key < 0) : Srt (A ++ B) := List.pairwise_append.2 ⟨h1, h2, h3⟩
theorem Srt.cons {x : It} {A : List It} (h : Srt (x :: A)) : (∀ y ∈ A, kc x.key y.key < 0) ∧ Srt A := List.pairwise_cons.1 h
theorem Srt.mkc {x : It} {A : List It} (h1 : ∀ y ∈ A, kc x.key y.key < 0) (h2 : Srt A) : Srt (x :: A) := List.pairwise_cons.2 ⟨h1, h2⟩
/-- The keys below, and those that are not. -/
def Below (k : ByteArray) (L : List It) : Prop := ∀ x ∈ L, kc x.key k < 0
def Above (k : ByteArray) (L : List It) : Prop := ∀ x ∈ L, kc k x.key < 0
/-- A key more, one less, another value. -/
def InsR (k : ByteArray) (v : Int) (F F' : List It) : Prop := ∃ A C, F = A ++ C ∧ F' = A ++ ⟨k, v⟩ :: C ∧ Below k A ∧ Above k C
def DelR (k : ByteArray) (F F' : List It) : Prop := ∃ A v C, F = A ++ ⟨k, v⟩ :: C ∧ F' = A ++ C ∧ Below k A ∧ Above k C
def UpdR (k : ByteArray) (v : Int) (F F' : List It) : Prop := ∃ A u C, F = A ++ ⟨k, u⟩ :: C ∧ F' = A ++ ⟨k, v⟩ :: C ∧ Below k A ∧ Above k C
theorem Below.app {k : ByteArray} {A B : List It} (h1 : Below k A) (h2 : Below k B) : Below k (A ++ B) := fun x hx => (List.mem_append.1 hx).elim (h1 x) (h2 x)
theorem Above.app {k : ByteArray} {A B : List It} (h1 : Above k A) (h2 : Above k B) : Above k (A ++ B) := fun x hx => (List.mem_append.1 hx).elim (h1 x) (h2 x)
theorem InsR.within {k : ByteArray} {v : Int} {F F' P Q : List It} (h : InsR k v F F') (hp : Below k P) (hq : Above k Q) : InsR k v (P ++ F ++ Q) (P ++ F' ++ Q) := by
  obtain ⟨A, C, rfl, rfl, h1, h2⟩ := h
  exact ⟨P ++ A, C ++ Q, by simp, by simp, hp.app h1, h2.app hq⟩
theorem DelR.within {k : ByteArray} {F F' P Q : List It} (h : DelR k F F') (hp : Below k P) (hq : Above k Q) : DelR k (P ++ F ++ Q) (P ++ F' ++ Q) := by
  obtain ⟨A, u, C, rfl, rfl, h1, h2⟩ := h
  exact ⟨P ++ A, u, C ++ Q, by simp, by simp, hp.app h1, h2.app hq⟩
theorem UpdR.within {k : ByteArray} {v : Int} {F F' P Q : List It} (h : UpdR k v F F') (hp : Below k P) (hq : Above k Q) : UpdR k v (P ++ F ++ Q) (P ++ F' ++ Q) := by
  obtain ⟨A, u, C, rfl, rfl, h1, h2⟩ := h
  exact ⟨P ++ A, u, C ++ Q, by simp, by simp, hp.app h1, h2.app hq⟩
theorem InsR.srt {k : ByteArray} {v : Int} {F F' : List It} (h : InsR k v F F') (hs : Srt F) : Srt F' := by
  obtain ⟨A, C, rfl, rfl, h1, h2⟩ := h
  obtain ⟨a, c, b⟩ := hs.app
  refine Srt.mk a (Srt.mkc h2 c) (fun x hx y hy => ?_)
  rcases List.mem_cons.1 hy with rfl | hy
  · exact h1 x hx
  · exact b x hx y hy
theorem DelR.srt {k : ByteArray} {F F' : List It} (h : DelR k F F') (hs : Srt F) : Srt F' := by
  obtain ⟨A, u, C, rfl, rfl, h1, h2⟩ := h
  obtain ⟨a, c, b⟩ := hs.app
  exact Srt.mk a c.cons.2 (fun x hx y hy => b x hx y (List.mem_cons_of_mem _ hy))
theorem UpdR.srt {k : ByteArray} {v : Int} {F F' : List It} (h : UpdR k v F F') (hs : Srt F) : Srt F' := by
  obtain ⟨A, u, C, rfl, rfl, h1, h2⟩ := h
  obtain ⟨a, c, b⟩ := hs.app
  refine Srt.mk a (Srt.mkc h2 c.cons.2) (fun x hx y hy => ?_)
  rcases List.mem_cons.1 hy with rfl | hy
  · exact h1 x hx
  · exact b x hx y (List.mem_cons_of_mem _ hy)
/-- Kids and keys, in turn. -/
def weave : List (List It) → List It → List It
  | [], L => L
  | f :: _, [] => f
  | f :: fs, x :: L => f ++ x :: weave fs L
def pre : List (List It) → List It → List It
  | f :: A, x :: C => f ++ x :: pre A C
  | _, _ => []
def post : List It → List (List It) → List It
  | x :: D, f :: B => x :: (f ++ post D B)
  | _, _ => []
theorem weave_one (f : List It) : ∀ (B : List (List It)) (D : List It), B.length = D.length → weave (f :: B) D = f ++ post D B := by
  intro B
  induction B generalizing f with
  | nil => intro D hD; obtain rfl : D = [] := List.eq_nil_of_length_eq_zero hD.symm; simp [weave, post]
  | cons b B ih =>
    intro D hD
    cases D with
    | nil => simp at hD
    | cons x D => rw [weave, ih b D (by simpa using hD), post]
theorem weave_at (f : List It) (B : List (List It)) (D : List It) (hB : B.length = D.length) : ∀ (A : List (List It)) (C : List It), A.length = C.length → weave (A ++ f :: B) (C ++ D) = pre A C ++ f ++ post D B := by
  intro A
  induction A with
  | nil => intro C hC; obtain rfl : C = [] := List.eq_nil_of_length_eq_zero hC.symm; simpa [pre] using weave_one f B D hB
  | cons a A ih =>
    intro C hC
    cases C with
    | nil => simp at hC
    | cons x C => rw [List.cons_append, List.cons_append, weave, ih C (by simpa using hC), pre]; simp
theorem pre_snoc : ∀ (A : List (List It)) (C : List It) (f : List It) (x : It), A.length = C.length → pre (A ++ [f]) (C ++ [x]) = pre A C ++ f ++ [x] := by
  intro A
  induction A with
  | nil => intro C f x hC; obtain rfl : C = [] := List.eq_nil_of_length_eq_zero hC.symm; simp [pre]
  | cons a A ih =>
    intro C f x hC
    cases C with
    | nil => simp at hC
    | cons y C => rw [List.cons_append, List.cons_append, pre, ih C f x (by simpa using hC), pre]; simp
/-- What stands ahead of a place is below, what stands behind is above. -/
theorem pre_below {k : ByteArray} {R : List It} : ∀ {A : List (List It)} {C : List It}, A.length = C.length → Srt (pre A C ++ R) → Below k C → Below k (pre A C) := by
  intro A
  induction A with
  | nil => intro C hC _ _ x hx; simp [pre] at hx
  | cons a A ih =>
    intro C hC hs hb
    cases C with
    | nil => simp at hC
    | cons y C =>
      rw [pre] at hs ⊢
      have hs' : Srt (a ++ (y :: (pre A C ++ R))) := by simpa using hs
      obtain ⟨_, h2, h3⟩ := hs'.app
      have hy := hb y (List.mem_cons_self ..)
      intro x hx
      rcases List.mem_append.1 hx with hx | hx
      · exact kl_trans (h3 x hx y (List.mem_cons_self ..)) hy
      · rcases List.mem_cons.1 hx with rfl | hx
        · exact hy
        · exact ih (by simpa using hC) h2.cons.2 (fun z hz => hb z (List.mem_cons_of_mem _ hz)) x hx
theorem post_above {k : ByteArray} : ∀ {D : List It} {B : List (List It)}, B.length = D.length → Srt (post D B) → Above k D → Above k (post D B) := by
  intro D
  induction D with
  | nil => intro B hB _ _ x hx; cases B <;> simp [post] at hx
  | cons y D ih =>
    intro B hB hs hb
    cases B with
    | nil => simp at hB
    | cons b B =>
      rw [post] at hs ⊢
      have hy := hb y (List.mem_cons_self ..)
      obtain ⟨h1, h2⟩ := hs.cons
      intro x hx
      rcases List.mem_cons.1 hx with rfl | hx
      · exact hy
      · exact kl_trans hy (h1 x hx)
end Go.Proofs.YtigkinakhijfoaaGreat

/- Trees in memory: each with its blocks, those among them that may be changed, and its keys in order. -/
namespace Go.Proofs.YtigkinakhijfoaaGreat
open Go.RowKit
set_option maxRecDepth 100000
set_option linter.unusedVariables false
set_option linter.unusedSimpArgs false

/-- A part of a tree: its node's block, its blocks, those that may be changed, its keys. -/
structure Kd where
  g : Nat
  X : Nat → Prop
  Y : Nat → Prop
  F : List It
def encI (L : List It) : List Value := L.flatMap (fun x => [.string x.key, .int .i64 x.val])
def ptrs (ks : List Kd) : List Value := ks.map (fun k => .pointer (some ⟨k.g, 0, none⟩))
theorem encI_append (A B : List It) : encI (A ++ B) = encI A ++ encI B := by simp [encI]
theorem encI_length (L : List It) : (encI L).length = L.length * 2 := by induction L with
  | nil => rfl
  | cons x L ih => rw [encI, List.flatMap_cons, List.length_append, ← encI, ih]; simp; omega
theorem encI_get (L : List It) : ∀ (i : Nat) (x : It), L[i]? = some x → (encI L)[i * 2]? = some (.string x.key) ∧ (encI L)[i * 2 + 1]? = some (.int .i64 x.val) := by
  induction L with
  | nil => intro i x h; simp at h
  | cons y L ih =>
    intro i x h
    have e : encI (y :: L) = .string y.key :: .int .i64 y.val :: encI L := rfl
    cases i with
    | zero => simp only [List.getElem?_cons_zero, Option.some.injEq] at h; subst h; rw [e]; exact ⟨rfl, rfl⟩
    | succ i =>
      obtain ⟨h1, h2⟩ := ih i x (by simpa using h)
      rw [e, show (i + 1) * 2 = i * 2 + 1 + 1 by omega]
      simp only [List.getElem?_cons_succ]
      exact ⟨h1, h2⟩
/-- A node in memory. -/
structure NodeP (cur : Int) (w : World) (d : Kd) (t : Int) (lv kv : Value) (L : List It) (ks : List Kd) : Prop where
  box : w.heap[d.g]? = some (.cells #[.int .i64 t, lv, kv] 78 (0, 0))
  row : w.ownsRow 0 106 2 lv L.length (encI L)
  krow : w.ownsRow 0 74 1 kv ks.length (ptrs ks)
  gx : d.X d.g
  lx : ∀ k, lv.ownBlock = some k → d.X k
  kx : ∀ k, kv.ownBlock = some k → d.X k
  gy : t = cur → d.Y d.g
  ly : t = cur → ∀ k, lv.ownBlock = some k → d.Y k
  ky : t = cur → ∀ k, kv.ownBlock = some k → d.Y k
  tle : t ≤ cur
  yx : ∀ k, d.Y k → d.X k
  xlt : ∀ k, d.X k → k < w.heap.size
  sx : ∀ e ∈ ks, ∀ k, e.X k → d.X k
  sy : ∀ e ∈ ks, ∀ k, e.Y k → d.Y k
  yk : ∀ e ∈ ks, ∀ k, e.Y k → e.X k
  apg : ∀ e ∈ ks, ¬ e.X d.g
  apl : ∀ e ∈ ks, ∀ k, lv.ownBlock = some k → ¬ e.X k
  apk : ∀ e ∈ ks, ∀ k, kv.ownBlock = some k → ¬ e.X k
  apart : ∀ (i j : Nat) (x y : Kd), ks[i]? = some x → ks[j]? = some y → i ≠ j → ∀ k, x.X k → ¬ y.X k
theorem NodeP.fr {cur : Int} {w w' : World} {d : Kd} {t : Int} {lv kv : Value} {L : List It} {ks : List Kd} {Z : Nat → Prop} (h : NodeP cur w d t lv kv L ks) (hf : Fr w w' Z) (hz : ∀ k, d.X k → ¬ Z k) : NodeP cur w' d t lv kv L ks :=
  { h with
    box := by rw [hf.block d.g (h.xlt _ h.gx) (hz _ h.gx)]; exact h.box
    row := ownsRow_fr h.row hf (fun k hk => hz k (h.lx k hk))
    krow := ownsRow_fr h.krow hf (fun k hk => hz k (h.kx k hk))
    xlt := fun k hk => Nat.lt_of_lt_of_le (h.xlt k hk) hf.size }
/-- Besides, of a right size. -/
structure NodeV (o : Nat) (cur : Int) (lo : Nat) (w : World) (d : Kd) (t : Int) (lv kv : Value) (L : List It) (ks : List Kd) : Prop extends NodeP cur w d t lv kv L ks where
  low : lo ≤ L.length
  high : L.length ≤ 2 * o - 1
  flat : d.F = weave (ks.map Kd.F) L
theorem NodeV.fr {o : Nat} {cur : Int} {lo : Nat} {w w' : World} {d : Kd} {t : Int} {lv kv : Value} {L : List It} {ks : List Kd} {Z : Nat → Prop} (h : NodeV o cur lo w d t lv kv L ks) (hf : Fr w w' Z) (hz : ∀ k, d.X k → ¬ Z k) : NodeV o cur lo w' d t lv kv L ks :=
  ⟨h.toNodeP.fr hf hz, h.low, h.high, h.flat⟩
theorem NodeV.lower {o : Nat} {cur : Int} {lo lo' : Nat} {w : World} {d : Kd} {t : Int} {lv kv : Value} {L : List It} {ks : List Kd} (h : NodeV o cur lo w d t lv kv L ks) (hl : lo' ≤ L.length) : NodeV o cur lo' w d t lv kv L ks :=
  ⟨h.toNodeP, hl, h.high, h.flat⟩
/-- A tree of a height. -/
def Sub (o : Nat) (cur : Int) : Nat → Nat → World → Kd → Prop
  | 0, lo, w, d => ∃ t lv kv L ks, NodeV o cur lo w d t lv kv L ks ∧ ks = []
  | h + 1, lo, w, d => ∃ t lv kv L ks, NodeV o cur lo w d t lv kv L ks ∧ ks.length = L.length + 1 ∧ ∀ e ∈ ks, Sub o cur h (o - 1) w e
/-- What kids must be. -/
def KOk (o : Nat) (cur : Int) : Nat → World → List It → List Kd → Prop
  | 0, w, L, ks => ks = []
  | h + 1, w, L, ks => ks.length = L.length + 1 ∧ ∀ e ∈ ks, Sub o cur h (o - 1) w e
theorem sub_iff {o : Nat} {cur : Int} {h lo : Nat} {w : World} {d : Kd} : Sub o cur h lo w d ↔ ∃ t lv kv L ks, NodeV o cur lo w d t lv kv L ks ∧ KOk o cur h w L ks := by cases h <;> exact Iff.rfl
/-- A tree whose node may be changed. -/
def SubM (o : Nat) (cur : Int) (h lo : Nat) (w : World) (d : Kd) : Prop := ∃ lv kv L ks, NodeV o cur lo w d cur lv kv L ks ∧ KOk o cur h w L ks
theorem SubM.sub {o : Nat} {cur : Int} {h lo : Nat} {w : World} {d : Kd} (hs : SubM o cur h lo w d) : Sub o cur h lo w d := by
  obtain ⟨lv, kv, L, ks, h1, h2⟩ := hs
  exact sub_iff.2 ⟨_, lv, kv, L, ks, h1, h2⟩
theorem Sub.fr {o : Nat} {cur : Int} : ∀ {h lo : Nat} {w w' : World} {d : Kd} {Z : Nat → Prop}, Sub o cur h lo w d → Fr w w' Z → (∀ k, d.X k → ¬ Z k) → Sub o cur h lo w' d
  | 0, lo, w, w', d, Z, hs, hf, hz => by
    obtain ⟨t, lv, kv, L, ks, h1, h2⟩ := hs
    exact ⟨t, lv, kv, L, ks, h1.fr hf hz, h2⟩
  | h + 1, lo, w, w', d, Z, hs, hf, hz => by
    obtain ⟨t, lv, kv, L, ks, h1, h2, h3⟩ := hs
    exact ⟨t, lv, kv, L, ks, h1.fr hf hz, h2, fun e he => Sub.fr (h3 e he) hf (fun k hk => hz k (h1.sx e he k hk))⟩
theorem KOk.fr {o : Nat} {cur : Int} {h : Nat} {w w' : World} {L : List It} {ks : List Kd} {Z : Nat → Prop} (hs : KOk o cur h w L ks) (hf : Fr w w' Z) (hz : ∀ e ∈ ks, ∀ k, e.X k → ¬ Z k) : KOk o cur h w' L ks := by
  cases h with
  | zero => exact hs
  | succ h => exact ⟨hs.1, fun e he => (hs.2 e he).fr hf (hz e he)⟩
theorem SubM.fr {o : Nat} {cur : Int} {h lo : Nat} {w w' : World} {d : Kd} {Z : Nat → Prop} (hs : SubM o cur h lo w d) (hf : Fr w w' Z) (hz : ∀ k, d.X k → ¬ Z k) : SubM o cur h lo w' d := by
  obtain ⟨lv, kv, L, ks, h1, h2⟩ := hs
  exact ⟨lv, kv, L, ks, h1.fr hf hz, h2.fr hf (fun e he k hk => hz k (h1.sx e he k hk))⟩
theorem KOk.len {o : Nat} {cur : Int} {h : Nat} {w : World} {L : List It} {ks : List Kd} (hk : KOk o cur h w L ks) : (h = 0 ∧ ks.length = 0) ∨ (h ≠ 0 ∧ ks.length = L.length + 1) := by
  cases h with
  | zero => exact .inl ⟨rfl, by rw [show ks = [] from hk]; rfl⟩
  | succ h => exact .inr ⟨by omega, hk.1⟩
theorem Sub.x {o : Nat} {cur : Int} {h lo : Nat} {w : World} {d : Kd} (hs : Sub o cur h lo w d) : d.X d.g ∧ (∀ k, d.X k → k < w.heap.size) ∧ ∀ k, d.Y k → d.X k := by
  obtain ⟨t, lv, kv, L, ks, h1, _⟩ := sub_iff.1 hs
  exact ⟨h1.gx, h1.xlt, h1.yx⟩
/-- The same, of which nothing may be changed. -/
def Kd.old (d : Kd) : Kd := ⟨d.g, d.X, fun _ => False, d.F⟩
theorem ptrs_old (ks : List Kd) : ptrs (ks.map Kd.old) = ptrs ks := by unfold ptrs; simp [Kd.old]
/-- At a later turn nothing of a tree may be changed. -/
theorem Sub.old {o : Nat} {cur : Int} : ∀ {h lo : Nat} {w : World} {d : Kd}, Sub o cur h lo w d → Sub o (cur + 1) h lo w d.old
  | h, lo, w, d, hs => by
    obtain ⟨t, lv, kv, L, ks, hN, hK⟩ := sub_iff.1 hs
    have hne : t ≠ cur + 1 := by have := hN.tle; omega
    have hm : ∀ e ∈ ks.map Kd.old, ∃ e' ∈ ks, e = e'.old := fun e he => by
      obtain ⟨e', h1, h2⟩ := List.mem_map.1 he
      exact ⟨e', h1, h2.symm⟩
    refine sub_iff.2 ⟨t, lv, kv, L, ks.map Kd.old, ⟨{
      box := hN.box
      row := hN.row
      krow := by rw [List.length_map, ptrs_old]; exact hN.krow
      gx := hN.gx
      lx := hN.lx
      kx := hN.kx
      gy := fun h => absurd h hne
      ly := fun h => absurd h hne
      ky := fun h => absurd h hne
      tle := by have := hN.tle; omega
      yx := fun k hk => hk.elim
      xlt := hN.xlt
      sx := fun e he k hk => by obtain ⟨e', h1, rfl⟩ := hm e he; exact hN.sx e' h1 k hk
      sy := fun e he k hk => by obtain ⟨e', h1, rfl⟩ := hm e he; exact hk
      yk := fun e he k hk => by obtain ⟨e', h1, rfl⟩ := hm e he; exact hk.elim
      apg := fun e he hk => by obtain ⟨e', h1, rfl⟩ := hm e he; exact hN.apg e' h1 hk
      apl := fun e he k h2 hk => by obtain ⟨e', h1, rfl⟩ := hm e he; exact hN.apl e' h1 k h2 hk
      apk := fun e he k h2 hk => by obtain ⟨e', h1, rfl⟩ := hm e he; exact hN.apk e' h1 k h2 hk
      apart := fun i j x y hx hy hij k hxk hyk => by
        rw [List.getElem?_map] at hx hy
        obtain ⟨x', h1, rfl⟩ := Option.map_eq_some_iff.1 hx
        obtain ⟨y', h2, rfl⟩ := Option.map_eq_some_iff.1 hy
        exact hN.apart i j x' y' h1 h2 hij k hxk hyk }, hN.low, hN.high, by
        rw [List.map_map]
        have : (Kd.F ∘ Kd.old) = Kd.F := by funext e; rfl
        rw [this]; exact hN.flat⟩, ?_⟩
    cases h with
    | zero => have : ks = [] := hK; rw [this]; rfl
    | succ h => exact ⟨by rw [List.length_map]; exact hK.1, fun e he => by
        obtain ⟨e', h1, rfl⟩ := hm e he
        exact Sub.old (hK.2 e' h1)⟩
termination_by h => h
/-- The tree itself. -/
structure TreeB (w : World) (tb o : Nat) (cnt : Int) (root : Nat) (cur : Int) : Prop where
  box : w.heap[tb]? = some (.cells #[.int .i64 (o : Int), .int .i64 cnt, .pointer (some ⟨root, 0, none⟩), .int .i64 cur] 80 (0, 0))
theorem TreeB.fr {w w' : World} {tb o : Nat} {cnt : Int} {root : Nat} {cur : Int} {Z : Nat → Prop} (h : TreeB w tb o cnt root cur) (hf : Fr w w' Z) (hz : ¬ Z tb) : TreeB w' tb o cnt root cur :=
  ⟨by rw [hf.block tb (Array.getElem?_eq_some_iff.1 h.box).1 hz]; exact h.box⟩
theorem TreeB.cells {w : World} {tb o : Nat} {cnt : Int} {root : Nat} {cur : Int} (h : TreeB w tb o cnt root cur) : w.cell? ⟨tb, 0, none⟩ = some (.int .i64 (o : Int)) ∧ w.cell? ⟨tb, 1, none⟩ = some (.int .i64 cnt) ∧ w.cell? ⟨tb, 2, none⟩ = some (.pointer (some ⟨root, 0, none⟩)) ∧ w.cell? ⟨tb, 3, none⟩ = some (.int .i64 cur) :=
  ⟨(cell_of_row _ _ _ _ _ _ h.box).trans rfl, (cell_of_row _ _ _ _ _ _ h.box).trans rfl, (cell_of_row _ _ _ _ _ _ h.box).trans rfl, (cell_of_row _ _ _ _ _ _ h.box).trans rfl⟩
theorem NodeP.cells {cur : Int} {w : World} {d : Kd} {t : Int} {lv kv : Value} {L : List It} {ks : List Kd} (h : NodeP cur w d t lv kv L ks) : w.cell? ⟨d.g, 0, none⟩ = some (.int .i64 t) ∧ w.cell? ⟨d.g, 1, none⟩ = some lv ∧ w.cell? ⟨d.g, 2, none⟩ = some kv :=
  ⟨(cell_of_row _ _ _ _ _ _ h.box).trans rfl, (cell_of_row _ _ _ _ _ _ h.box).trans rfl, (cell_of_row _ _ _ _ _ _ h.box).trans rfl⟩
theorem NodeP.frozen {cur : Int} {w : World} {d : Kd} {t : Int} {lv kv : Value} {L : List It} {ks : List Kd} (h : NodeP cur w d t lv kv L ks) (o : Nat) : w.frozen? ⟨d.g, o, none⟩ = false := by simp [World.frozen?, h.box]
theorem NodeP.shape {cur : Int} {w : World} {d : Kd} {t : Int} {lv kv : Value} {L : List It} {ks : List Kd} (h : NodeP cur w d t lv kv L ks) : ∃ la lc ka kc', lv = .slice la L.length lc ∧ kv = .slice ka ks.length kc' := by
  obtain ⟨la, lc, e1⟩ := shape_n h.row
  obtain ⟨ka, kc', e2⟩ := shape_n h.krow
  exact ⟨la, lc, ka, kc', e1, e2⟩
/-- A node's three blocks are three. -/
theorem NodeP.three {cur : Int} {w : World} {d : Kd} {t : Int} {lv kv : Value} {L : List It} {ks : List Kd} (h : NodeP cur w d t lv kv L ks) : (∀ k, lv.ownBlock = some k → k ≠ d.g) ∧ (∀ k, kv.ownBlock = some k → k ≠ d.g) ∧ ∀ k, lv.ownBlock = some k → kv.ownBlock ≠ some k := by
  have r : ∀ k, lv.ownBlock = some k → ∃ cur, w.heap[k]? = some (.cells cur 106 (0, 0)) := fun k hk => by
    rcases h.row.2 with ⟨e, _⟩ | ⟨g, cap, c, e, _, hg, _⟩
    · rw [e] at hk; cases hk
    · rw [e] at hk; cases hk; exact ⟨c, hg⟩
  have q : ∀ k, kv.ownBlock = some k → ∃ cur, w.heap[k]? = some (.cells cur 74 (0, 0)) := fun k hk => by
    rcases h.krow.2 with ⟨e, _⟩ | ⟨g, cap, c, e, _, hg, _⟩
    · rw [e] at hk; cases hk
    · rw [e] at hk; cases hk; exact ⟨c, hg⟩
  refine ⟨fun k hk e => ?_, fun k hk e => ?_, fun k hk e => ?_⟩
  · obtain ⟨c, hc⟩ := r k hk
    rw [e, h.box] at hc; cases hc
  · obtain ⟨c, hc⟩ := q k hk
    rw [e, h.box] at hc; cases hc
  · obtain ⟨c, hc⟩ := r k hk
    obtain ⟨c', hc'⟩ := q k e
    rw [hc] at hc'; cases hc'
end Go.Proofs.YtigkinakhijfoaaGreat

/- Where a key stands among a node's. -/
namespace Go.Proofs.YtigkinakhijfoaaGreat
open Go.RowKit
set_option maxRecDepth 100000
set_option linter.unusedVariables false
set_option linter.unusedSimpArgs false

theorem Fr.two {a b c : World} {X : Nat → Prop} (h : Fr a b X) (k : Fr b c X) : Fr a c X := (h.trans k).mono (fun _ _ h => h.elim id id)
theorem Fr.cell {w w' : World} {X : Nat → Prop} (hf : Fr w w' X) {g o : Nat} {v : Value} (hx : ¬ X g) (h : w.cell? ⟨g, o, none⟩ = some v) : w'.cell? ⟨g, o, none⟩ = some v := by
  rw [World.cell?_of_block (w := w) (hf.block g (World.block_lt_of_cell? w _ h) hx)]; exact h
set_option maxHeartbeats 1000000 in
theorem cmp_any (k s : ByteArray) (v : Int) (w : World) : Calls Tryz.prog 84 #[.agg #[.string k, .int .i64 v], .string s] w fun e w' => e = .returned (.int .i64 (kc k s)) ∧ Fr w w' (fun _ => False) := by
  obtain ⟨w1, hw1⟩ : ∃ w1, w1 = w.alloc (.cells #[.string k, .int .i64 v] 106) := ⟨_, rfl⟩
  have b1 : w1.heap[w.heap.size]? = some (.cells #[.string k, .int .i64 v] 106 (0, 0)) := by rw [hw1]; exact heap_alloc_new w _
  have x0 : w1.cell? ⟨w.heap.size, 0, none⟩ = some (.string k) := (cell_of_row _ _ _ _ _ _ b1).trans rfl
  have f1 : Fr w w1 (fun _ => False) := by rw [hw1]; exact Fr.alloc w _ _
  have HF := hide f1
  have HW := hide hw1
  have HC := hide (Tryz.strings_Compare k s w1)
  clear b1 f1 hw1
  go_enter Tryz.func84, Tryz.ntmps84
  go_wp2_with (rw [← HW.out]; clear HW)
  refine HC.out.mono ?_
  rintro e w2 ⟨rfl, rfl⟩
  clear x0
  go_wp2
  go_ret
  exact ⟨rfl, HF.out⟩
/-- Items that lie somewhere. -/
def ItsIn (w : World) (a : Option Addr) (L : List It) : Prop := ∀ (i : Nat) (x : It), L[i]? = some x → ∃ g, a = some ⟨g, 0, none⟩ ∧ w.cell? ⟨g, i * 2, none⟩ = some (.string x.key) ∧ w.cell? ⟨g, i * 2 + 1, none⟩ = some (.int .i64 x.val)
theorem ItsIn.fr {w w' : World} {a : Option Addr} {L : List It} (h : ItsIn w a L) (hf : Fr w w' (fun _ => False)) : ItsIn w' a L := fun i x hi => by
  obtain ⟨g, h1, h2, h3⟩ := h i x hi
  exact ⟨g, h1, hf.cell (fun h => h) h2, hf.cell (fun h => h) h3⟩
theorem its_row {w : World} {a : Option Addr} {n c : Nat} {L : List It} (h : w.ownsRow 0 106 2 (.slice a n c) n (encI L)) : ItsIn w a L := fun i x hi => by
  obtain ⟨h1, h2⟩ := encI_get L i x hi
  obtain ⟨g, e, c1⟩ := row_cell h h1
  obtain ⟨g', e', c2⟩ := row_cell h h2
  rw [e] at e'
  cases e'
  exact ⟨g, e, c1, c2⟩
/-- The place of a key, and whether it is there. -/
def FindP (L : List It) (s : ByteArray) (i : Nat) (b : Bool) : Prop := i ≤ L.length ∧ (∀ k x, k < i → L[k]? = some x → kc x.key s < 0) ∧ (∀ k x, i ≤ k → L[k]? = some x → 0 ≤ kc x.key s) ∧ (b = true ↔ ∃ x, L[i]? = some x ∧ x.key = s)
def FindQ (L : List It) (s : ByteArray) (w : World) (e : Ending) (w' : World) : Prop := ∃ (i : Nat) (b : Bool), e = .returned (.tuple #[.int .i64 (i : Int), .bool b]) ∧ FindP L s i b ∧ Fr w w' (fun _ => False)
set_option maxHeartbeats 4000000 in
theorem search_any {w : World} (a : Option Addr) (n c : Nat) (L : List It) (hL : ItsIn w a L) (hn : L.length = n) (hb : n ≤ 1048576) (hs : Srt L) (s : ByteArray) : Calls Tryz.prog 83 #[.slice a n c, .string s, .func (.func 84) #[] #[]] w (FindQ L s w) := by
  have HL := hide hL
  have HN := hide hn
  have HS := hide hs
  clear hL hn hs
  go_enter Tryz.func83, Tryz.ntmps83
  go_wp2_with fail
  go_loopw [9, 10] (fun vi vj wr => ∃ i j : Nat, i ≤ j ∧ j ≤ n ∧ vi = .int .i64 (i : Int) ∧ vj = .int .i64 (j : Int) ∧ (∀ k x, k < i → L[k]? = some x → kc x.key s < 0) ∧ (∀ k x, j ≤ k → L[k]? = some x → 0 ≤ kc x.key s) ∧ Fr w wr (fun _ => False)) (fun vi vj _ => (intOf vj).toNat - (intOf vi).toNat)
  case atStart => exact ⟨0, n, Nat.zero_le _, Nat.le_refl _, rfl, rfl, fun k x hk _ => absurd hk (Nat.not_lt_zero k), fun k x hk hx => (by rw [List.getElem?_eq_none (by have := HN.out; omega)] at hx; cases hx), Fr.refl _ _⟩
  case round =>
    rename World => W
    obtain ⟨i, j, hij, hjn, rfl, rfl, hlo, hhi, hf⟩ := hrel
    have HLO := hide hlo
    have HHI := hide hhi
    have HF := hide hf
    clear hlo hhi hf
    rcases Nat.lt_or_ge i j with hlt | hge
    · obtain ⟨m, hm⟩ : ∃ m, m = (i + j) / 2 := ⟨_, rfl⟩
      have hmi : i ≤ m := by omega
      have hmj : m < j := by omega
      have hmn : m < n := by omega
      obtain ⟨x, hx⟩ : ∃ x, L[m]? = some x := ⟨_, List.getElem?_eq_getElem (by rw [HN.out]; exact hmn)⟩
      obtain ⟨g, ha, c0, c1⟩ := (HL.out.fr HF.out) m x hx
      obtain ⟨xk, xv⟩ := x
      dsimp only at c0 c1
      rw [ha]
      have HX := hide hx
      have hdiv : ((i : Int) + (j : Int)) / 2 = (m : Int) := by omega
      have hlti : (i : Int) < (j : Int) := by omega
      clear hx ha hm
      have HC := hide (cmp_any xk s xv W)
      go_wp2_with fail
      refine HC.out.mono ?_
      rintro e W1 ⟨rfl, f1⟩
      have HF1 := hide (HF.out.two f1)
      clear HC f1 c0 c1 hdiv hlti
      by_cases hk : kc xk s < 0
      · have hkb : decide (kc xk s < 0) = true := by simpa using hk
        have HK := hide hk
        go_wp2
        go_roundw
        case rel => exact ⟨m + 1, j, by omega, by omega, by go_num, rfl, fun k x hkm hx => by
            obtain ⟨hl, hv⟩ := List.getElem?_eq_some_iff.1 hx
            rcases Nat.lt_or_ge k m with h | h
            · have h2 := HS.out
              unfold Srt at h2
              have h3 := List.pairwise_iff_getElem.1 h2 k m hl (by rw [HN.out]; exact hmn) h
              rw [hv, (List.getElem?_eq_some_iff.1 HX.out).2] at h3
              exact kl_trans h3 HK.out
            · obtain rfl : k = m := by omega
              rw [HX.out] at hx
              cases hx
              exact HK.out, HHI.out, HF1.out⟩
        case measure => simp [intOf]; omega
      · have hkb : decide (kc xk s < 0) = false := by simpa using hk
        have HK := hide hk
        go_wp2
        go_roundw
        case rel => exact ⟨i, m, by omega, by omega, rfl, rfl, HLO.out, fun k x hkm hx => by
            obtain ⟨hl, hv⟩ := List.getElem?_eq_some_iff.1 hx
            rcases Nat.lt_or_ge m k with h | h
            · have h2 := HS.out
              unfold Srt at h2
              have h3 := List.pairwise_iff_getElem.1 h2 m k (by rw [HN.out]; exact hmn) hl h
              rw [hv, (List.getElem?_eq_some_iff.1 HX.out).2] at h3
              have h4 := HK.out; rcases Int.lt_or_le (kc x.key s) 0 with h5 | h5
              · have := kl_trans h3 h5
                simp only at this; omega
              · exact h5
            · obtain rfl : k = m := by omega
              rw [HX.out] at hx
              cases hx
              have := HK.out
              simp only at this ⊢; omega, HF1.out⟩
        case measure => simp [intOf]; omega
    · obtain rfl : i = j := by omega
      have hnl : ¬ ((i : Int) < (i : Int)) := by omega
      have hnlb : decide ((i : Int) < (i : Int)) = false := by simp
      rcases Nat.lt_or_ge i n with hin | hin
      · have hini : (i : Int) < (n : Int) := by omega
        have hinb : decide ((i : Int) < (n : Int)) = true := by simp; omega
        obtain ⟨x, hx⟩ : ∃ x, L[i]? = some x := ⟨_, List.getElem?_eq_getElem (by rw [HN.out]; exact hin)⟩
        obtain ⟨g, ha, c0, c1⟩ := (HL.out.fr HF.out) i x hx
        obtain ⟨xk, xv⟩ := x
        dsimp only at c0 c1
        rw [ha]
        have HX := hide hx
        have HC := hide (cmp_any xk s xv W)
        clear hx ha hge
        go_wp2_with fail
        refine HC.out.mono ?_
        rintro e W1 ⟨rfl, f1⟩
        have HF1 := hide (HF.out.two f1)
        clear HC f1 c0 c1
        obtain ⟨b, hb'⟩ : ∃ b, b = decide (kc xk s = 0) := ⟨_, rfl⟩
        have hbe : (kc xk s == 0) = b := by rw [hb']; rfl
        have HB := hide hb'
        clear hb'
        go_wp2
        go_ret2
        refine ⟨i, b, rfl, ⟨by rw [HN.out]; omega, HLO.out, HHI.out, ?_⟩, HF1.out⟩
        rw [HB.out]
        constructor
        · intro h
          exact ⟨_, HX.out, kc_zero.1 (by simpa using h)⟩
        · rintro ⟨y, hy, e⟩
          rw [HX.out] at hy
          cases hy
          simpa using kc_zero.2 e
      · have hini : ¬ ((i : Int) < (n : Int)) := by omega
        have hinb : decide ((i : Int) < (n : Int)) = false := by simp; omega
        clear hge
        go_wp2
        go_ret2
        refine ⟨i, false, rfl, ⟨by rw [HN.out]; omega, HLO.out, HHI.out, ?_⟩, HF.out⟩
        constructor
        · intro h; cases h
        · rintro ⟨y, hy, _⟩
          rw [List.getElem?_eq_none (by rw [HN.out]; exact hin)] at hy
          cases hy
set_option maxHeartbeats 1000000 in
theorem find_any {cur : Int} {w : World} {d : Kd} {t : Int} {lv kv : Value} {L : List It} {ks : List Kd} (h : NodeP cur w d t lv kv L ks) (hs : Srt L) (hb : L.length ≤ 1048576) (s : ByteArray) : Calls Tryz.prog 48 #[.pointer (some ⟨d.g, 0, none⟩), .string s] w (FindQ L s w) := by
  obtain ⟨x0, x1, x2⟩ := h.cells
  obtain ⟨la, lc, ka, kc', rfl, rfl⟩ := h.shape
  have HS := hide (search_any la L.length lc L (its_row h.row) rfl hb hs s)
  generalize L.length = n at *
  clear h hs
  go_enter Tryz.func48, Tryz.ntmps48
  go_wp2_with fail
  refine HS.out.mono ?_
  rintro e w1 ⟨i, b, rfl, hp, f⟩
  have HP := hide hp
  have HF := hide f
  clear HS hp f x0 x1 x2
  go_wp2
  go_ret2
  exact ⟨i, b, rfl, HP.out, HF.out⟩
theorem natbeq (n : Nat) : ((n : Int) == 0) = decide (n = 0) := by
  by_cases h0 : n = 0
  · subst h0; rfl
  · rw [decide_eq_false h0]; simp; omega
set_option maxHeartbeats 1000000 in
theorem last_any {cur : Int} {w : World} {d : Kd} {t : Int} {lv kv : Value} {L : List It} {ks : List Kd} (h : NodeP cur w d t lv kv L ks) : Calls Tryz.prog 49 #[.pointer (some ⟨d.g, 0, none⟩)] w fun e w' => e = .returned (.bool (decide (ks.length = 0))) ∧ w' = w := by
  obtain ⟨x0, x1, x2⟩ := h.cells
  obtain ⟨la, lc, ka, kc', rfl, rfl⟩ := h.shape
  generalize ks.length = n at *
  clear h
  obtain ⟨b, hb'⟩ : ∃ b, b = decide (n = 0) := ⟨_, rfl⟩
  have hbe : ((n : Int) == 0) = b := by rw [hb']; exact natbeq n
  rw [← hb']
  clear hb'
  go_enter Tryz.func49, Tryz.ntmps49
  go_wp2
  go_ret
  exact ⟨rfl, rfl⟩
end Go.Proofs.YtigkinakhijfoaaGreat

/- Full and rich nodes. -/
namespace Go.Proofs.YtigkinakhijfoaaGreat
open Go.RowKit
set_option maxRecDepth 100000
set_option linter.unusedVariables false
set_option linter.unusedSimpArgs false

theorem Fr.drewN (w : World) (n : Nat) (X : Nat → Prop) : Fr w (w.drewN n) X := ⟨rfl, rfl, rfl, Nat.le_refl _, fun _ _ _ => rfl⟩
theorem fullbeq (n o : Nat) (h : 1 ≤ o) : ((n : Int) == 2 * (o : Int) - 1) = decide (n = 2 * o - 1) := by
  by_cases h0 : n = 2 * o - 1
  · rw [decide_eq_true h0]; simp; omega
  · rw [decide_eq_false h0]; simp; omega
set_option maxHeartbeats 2000000 in
theorem full_any {cur : Int} {w : World} {d : Kd} {t : Int} {lv kv : Value} {L : List It} {ks : List Kd} (h : NodeP cur w d t lv kv L ks) (o : Nat) (h1 : 1 ≤ o) (h64 : o ≤ 64) (cnt : Int) : Calls Tryz.prog 52 #[.agg #[.int .i64 (o : Int), .int .i64 cnt], .pointer (some ⟨d.g, 0, none⟩)] w fun e w' => e = .returned (.bool (decide (L.length = 2 * o - 1))) ∧ Fr w w' (fun _ => False) := by
  obtain ⟨w1, hw1⟩ : ∃ w1, w1 = w.alloc (.cells #[.int .i64 (o : Int), .int .i64 cnt] 73) := ⟨_, rfl⟩
  have b1 : w1.heap[w.heap.size]? = some (.cells #[.int .i64 (o : Int), .int .i64 cnt] 73 (0, 0)) := by rw [hw1]; exact heap_alloc_new w _
  have y0 : w1.cell? ⟨w.heap.size, 0, none⟩ = some (.int .i64 (o : Int)) := (cell_of_row _ _ _ _ _ _ b1).trans rfl
  have f1 : Fr w w1 (fun _ => False) := by rw [hw1]; exact Fr.alloc w _ _
  obtain ⟨x0, x1, x2⟩ := (h.fr f1 (fun _ _ h => h)).cells
  obtain ⟨la, lc, ka, kc', rfl, rfl⟩ := h.shape
  generalize L.length = n at *
  obtain ⟨b, hb'⟩ : ∃ b, b = decide (n = 2 * o - 1) := ⟨_, rfl⟩
  have hbe : ((n : Int) == 2 * (o : Int) - 1) = b := by rw [hb']; exact fullbeq n o h1
  rw [← hb']
  have HF := hide f1
  have HW := hide hw1
  clear hb' h b1 f1 hw1
  go_enter Tryz.func52, Tryz.ntmps52
  go_wp2_with (rw [← HW.out]; clear HW)
  go_quiet (fail)
  go_wp2
  go_ret
  exact ⟨rfl, HF.out.two (Fr.drewN _ _ _)⟩
set_option maxHeartbeats 2000000 in
theorem rich_any {cur : Int} {w : World} {d : Kd} {t : Int} {lv kv : Value} {L : List It} {ks : List Kd} (h : NodeP cur w d t lv kv L ks) (o : Nat) (h1 : 1 ≤ o) (h64 : o ≤ 64) (cnt : Int) : Calls Tryz.prog 57 #[.agg #[.int .i64 (o : Int), .int .i64 cnt], .pointer (some ⟨d.g, 0, none⟩)] w fun e w' => e = .returned (.bool (decide (o ≤ L.length))) ∧ Fr w w' (fun _ => False) := by
  obtain ⟨w1, hw1⟩ : ∃ w1, w1 = w.alloc (.cells #[.int .i64 (o : Int), .int .i64 cnt] 73) := ⟨_, rfl⟩
  have b1 : w1.heap[w.heap.size]? = some (.cells #[.int .i64 (o : Int), .int .i64 cnt] 73 (0, 0)) := by rw [hw1]; exact heap_alloc_new w _
  have y0 : w1.cell? ⟨w.heap.size, 0, none⟩ = some (.int .i64 (o : Int)) := (cell_of_row _ _ _ _ _ _ b1).trans rfl
  have f1 : Fr w w1 (fun _ => False) := by rw [hw1]; exact Fr.alloc w _ _
  obtain ⟨x0, x1, x2⟩ := (h.fr f1 (fun _ _ h => h)).cells
  obtain ⟨la, lc, ka, kc', rfl, rfl⟩ := h.shape
  generalize L.length = n at *
  have HF := hide f1
  have HW := hide hw1
  clear h b1 f1 hw1
  go_enter Tryz.func57, Tryz.ntmps57
  go_wp2_with (rw [← HW.out]; clear HW)
  go_quiet (fail)
  go_wp2
  go_ret
  exact ⟨rfl, HF.out.two (Fr.drewN _ _ _)⟩
end Go.Proofs.YtigkinakhijfoaaGreat
