/- Families of periods of which any two lie within one another or apart with a gap: they are told by how many hold at each instant. -/
import Derived.Lib.BitFns
namespace Go.Proofs.YtlapifncplbcnaaGreat
set_option linter.unusedVariables false
set_option linter.unusedSimpArgs false

/-- A stretch of time. -/
structure Iv where
  lo : Int
  hi : Int
deriving DecidableEq
/-- Does it hold at an instant? -/
def Iv.at (a : Iv) (t : Int) : Bool := decide (a.lo ≤ t ∧ t < a.hi)
/-- Within one another, or apart with a gap. -/
def Compat (a b : Iv) : Prop := a.hi < b.lo ∨ b.hi < a.lo ∨ (a.lo ≤ b.lo ∧ b.hi ≤ a.hi) ∨ (b.lo ≤ a.lo ∧ a.hi ≤ b.hi)
theorem Compat.symm {a b : Iv} (h : Compat a b) : Compat b a := by unfold Compat at *; omega
theorem Compat.refl (a : Iv) : Compat a a := .inr (.inr (.inl ⟨Int.le_refl _, Int.le_refl _⟩))
def Lam (A : List Iv) : Prop := (∀ a ∈ A, a.lo < a.hi) ∧ A.Pairwise Compat
/-- How many hold at an instant. -/
def cntI (A : List Iv) (t : Int) : Nat := A.countP (fun a => a.at t)
theorem Lam.perm {A B : List Iv} (h : Lam A) (hp : A.Perm B) : Lam B := ⟨fun a ha => h.1 a (hp.mem_iff.2 ha), hp.pairwise h.2 (fun h => Compat.symm h)⟩
theorem pair_two : ∀ {A : List Iv}, A.Pairwise Compat → ∀ {a b : Iv}, a ∈ A → b ∈ A → Compat a b
  | [], _, _, _, ha, _ => absurd ha (List.not_mem_nil)
  | x :: A, h, a, b, ha, hb => by
    obtain ⟨h1, h2⟩ := List.pairwise_cons.1 h
    rcases List.mem_cons.1 ha with e' | ha
    · rw [e']
      rcases List.mem_cons.1 hb with e | hb
      · rw [e]; exact Compat.refl _
      · exact h1 b hb
    · rcases List.mem_cons.1 hb with e | hb
      · rw [e]; exact (h1 a ha).symm
      · exact pair_two h2 ha hb
theorem Lam.two {A : List Iv} (h : Lam A) {a b : Iv} (ha : a ∈ A) (hb : b ∈ A) : Compat a b := pair_two h.2 ha hb
theorem cntI_pos {A : List Iv} {t : Int} : 0 < cntI A t ↔ ∃ a ∈ A, a.lo ≤ t ∧ t < a.hi := by
  unfold cntI
  rw [List.countP_pos_iff]
  constructor
  · rintro ⟨a, h, e⟩; exact ⟨a, h, of_decide_eq_true e⟩
  · rintro ⟨a, h, e⟩; exact ⟨a, h, decide_eq_true e⟩
theorem outer : ∀ {A : List Iv}, A ≠ [] → ∃ a ∈ A, ∀ c ∈ A, a.lo < c.lo ∨ (a.lo = c.lo ∧ c.hi ≤ a.hi)
  | [], h => absurd rfl h
  | [a], _ => ⟨a, List.mem_singleton.2 rfl, fun c hc => by rw [List.mem_singleton] at hc; subst hc; exact .inr ⟨rfl, Int.le_refl _⟩⟩
  | a :: b :: A, _ => by
    obtain ⟨x, hx, h⟩ := outer (A := b :: A) (by simp)
    by_cases hax : a.lo < x.lo ∨ (a.lo = x.lo ∧ x.hi ≤ a.hi)
    · refine ⟨a, List.mem_cons_self .., fun c hc => ?_⟩
      rcases List.mem_cons.1 hc with rfl | hc
      · exact .inr ⟨rfl, Int.le_refl _⟩
      · have := h c hc; omega
    · refine ⟨x, List.mem_cons_of_mem _ hx, fun c hc => ?_⟩
      rcases List.mem_cons.1 hc with rfl | hc
      · omega
      · exact h c hc
theorem outer_hi {A B : List Iv} (hA : Lam A) (hB : Lam B) (hc : ∀ t, cntI A t = cntI B t) {a b : Iv} (ha : a ∈ A) (ho : ∀ c ∈ A, a.lo < c.lo ∨ (a.lo = c.lo ∧ c.hi ≤ a.hi)) (hb : b ∈ B) (e : a.lo = b.lo) : b.hi ≤ a.hi := by
  refine Int.not_lt.1 (fun hlt => ?_)
  have h1 := hA.1 a ha
  have h2 : 0 < cntI B a.hi := cntI_pos.2 ⟨b, hb, by omega, hlt⟩
  rw [← hc] at h2
  obtain ⟨c, hcA, h3, h4⟩ := cntI_pos.1 h2
  have h5 := hA.two ha hcA
  have h6 := ho c hcA
  unfold Compat at h5
  omega
theorem outer_lo {A B : List Iv} (hA : Lam A) (hc : ∀ t, cntI A t = cntI B t) {a b : Iv} (ha : a ∈ A) (ho : ∀ c ∈ B, b.lo < c.lo ∨ (b.lo = c.lo ∧ c.hi ≤ b.hi)) : b.lo ≤ a.lo := by
  have h1 := hA.1 a ha
  have h2 : 0 < cntI A a.lo := cntI_pos.2 ⟨a, ha, Int.le_refl _, h1⟩
  rw [hc] at h2
  obtain ⟨c, hcB, h3, h4⟩ := cntI_pos.1 h2
  have := ho c hcB
  omega
theorem lam_perm : ∀ (n : Nat) {A B : List Iv}, A.length = n → Lam A → Lam B → (∀ t, cntI A t = cntI B t) → A.Perm B
  | 0, A, B, hn, hA, hB, hc => by
    have : A = [] := List.eq_nil_of_length_eq_zero hn
    subst this
    have : B = [] := List.eq_nil_iff_forall_not_mem.2 (fun b hb => by
      have h1 := hB.1 b hb
      have h2 : 0 < cntI B b.lo := cntI_pos.2 ⟨b, hb, Int.le_refl _, h1⟩
      rw [← hc] at h2
      simp [cntI] at h2)
    subst this
    exact List.Perm.refl _
  | n + 1, A, B, hn, hA, hB, hc => by
    obtain ⟨a, ha, hao⟩ := outer (A := A) (by intro e; rw [e] at hn; cases hn)
    have hBne : B ≠ [] := fun e => by
      have h1 := hA.1 a ha
      have h2 : 0 < cntI A a.lo := cntI_pos.2 ⟨a, ha, Int.le_refl _, h1⟩
      rw [hc, e] at h2
      simp [cntI] at h2
    obtain ⟨b, hb, hbo⟩ := outer hBne
    have e1 : a.lo = b.lo := by
      have h1 := outer_lo hA hc ha hbo
      have h2 := outer_lo hB (fun t => (hc t).symm) hb hao
      omega
    have e2 : a.hi = b.hi := by
      have h1 := outer_hi hA hB hc ha hao hb e1
      have h2 := outer_hi hB hA (fun t => (hc t).symm) hb hbo ha e1.symm
      omega
    have e : a = b := by cases a; cases b; simp_all
    subst e
    have pA := List.perm_cons_erase ha
    have pB := List.perm_cons_erase hb
    have hA' := hA.perm pA
    have hB' := hB.perm pB
    have hc' : ∀ t, cntI (A.erase a) t = cntI (B.erase a) t := fun t => by
      have h1 := hc t
      unfold cntI at h1 ⊢
      rw [pA.countP_eq, pB.countP_eq, List.countP_cons, List.countP_cons] at h1
      omega
    have ih := lam_perm n (A := A.erase a) (B := B.erase a) (by rw [List.length_erase_of_mem ha]; omega) ⟨fun x hx => hA'.1 x (List.mem_cons_of_mem _ hx), (List.pairwise_cons.1 hA'.2).2⟩ ⟨fun x hx => hB'.1 x (List.mem_cons_of_mem _ hx), (List.pairwise_cons.1 hB'.2).2⟩ hc'
    exact pA.trans ((ih.cons a).trans pB.symm)
/-- A piece of time in which a row is there so many times. -/
structure Pc where
  lo : Int
  hi : Int
  n : Int
deriving DecidableEq
/-- Pieces from an instant up to another, of which each ends where the next begins. -/
def Chn : Int → List Pc → Int → Prop
  | x, [], y => x = y
  | x, p :: ps, y => p.lo = x ∧ p.lo < p.hi ∧ Chn p.hi ps y
theorem Chn.le : ∀ {x : Int} {ps : List Pc} {y : Int}, Chn x ps y → x ≤ y
  | _, [], _, h => Int.le_of_eq h
  | x, p :: ps, y, ⟨h1, h2, h3⟩ => by have := Chn.le h3; omega
theorem Chn.append : ∀ {x : Int} {ps qs : List Pc} {y z : Int}, Chn x ps y → Chn y qs z → Chn x (ps ++ qs) z
  | _, [], qs, _, _, h, k => by unfold Chn at h; subst h; exact k
  | x, p :: ps, qs, y, z, ⟨h1, h2, h3⟩, k => ⟨h1, h2, Chn.append h3 k⟩
theorem Chn.split : ∀ {x : Int} {ps qs : List Pc} {z : Int}, Chn x (ps ++ qs) z → ∃ y, Chn x ps y ∧ Chn y qs z
  | x, [], qs, z, h => ⟨x, rfl, h⟩
  | x, p :: ps, qs, z, ⟨h1, h2, h3⟩ => by obtain ⟨y, h4, h5⟩ := Chn.split h3; exact ⟨y, ⟨h1, h2, h4⟩, h5⟩
theorem Chn.last {x : Int} {ps : List Pc} {p : Pc} {z : Int} (h : Chn x (ps ++ [p]) z) : Chn x ps p.lo ∧ p.lo < p.hi ∧ p.hi = z := by
  obtain ⟨y, h1, h2, h3, h4⟩ := Chn.split h
  subst h2
  exact ⟨h1, h3, h4⟩
/-- All but k are closed at an instant. -/
def shrink (k : Nat) (x : Int) : List Int → List Iv → List Int × List Iv
  | [], out => ([], out)
  | s :: S, out => if k < S.length + 1 then shrink k x S (out ++ [⟨s, x⟩]) else (s :: S, out)
/-- As many are opened as are wanting. -/
def grow_ (k : Nat) (x : Int) (S : List Int) : List Int := List.replicate (k - S.length) x ++ S
theorem shrink_spec (k : Nat) (x : Int) : ∀ (S : List Int) (out : List Iv), ∃ D E, S = D ++ E ∧ shrink k x S out = (E, out ++ D.map (fun s => ⟨s, x⟩)) ∧ E.length = min k S.length
  | [], out => ⟨[], [], rfl, by simp [shrink], by simp⟩
  | s :: S, out => by
    unfold shrink
    by_cases h : k < S.length + 1
    · rw [if_pos h]
      obtain ⟨D, E, h1, h2, h3⟩ := shrink_spec k x S (out ++ [⟨s, x⟩])
      exact ⟨s :: D, E, by rw [h1]; rfl, by rw [h2]; simp, by rw [h3]; simp only [List.length_cons]; omega⟩
    · rw [if_neg h]
      exact ⟨[], s :: S, rfl, by simp, by simp only [List.length_cons]; omega⟩
/-- One piece more. -/
def stepU (p : Pc) (st : List Int × List Iv) : List Int × List Iv :=
  (grow_ p.n.toNat p.lo (shrink p.n.toNat p.lo st.1 st.2).1, (shrink p.n.toNat p.lo st.1 st.2).2)
/-- What holds while a row is unfolded: y is the last piece's beginning, x its end. -/
structure InvU (V : Int → Int) (y x : Int) (S : List Int) (out : List Iv) : Prop where
  yx : y < x
  ok : ∀ c ∈ out, c.lo < c.hi ∧ c.hi ≤ y
  le : ∀ s ∈ S, s ≤ y
  down : S.Pairwise (fun a b => b ≤ a)
  two : out.Pairwise Compat
  both : ∀ c ∈ out, ∀ s ∈ S, c.hi < s ∨ s ≤ c.lo
  cnt : ∀ t, t < x → ((cntI out t : Nat) : Int) + ((S.countP (fun s => decide (s ≤ t)) : Nat) : Int) = max (V t) 0
theorem cntI_append (a b : List Iv) (t : Int) : cntI (a ++ b) t = cntI a t + cntI b t := by unfold cntI; exact List.countP_append ..
theorem cntI_closed (D : List Int) (x t : Int) : cntI (D.map (fun s => (⟨s, x⟩ : Iv))) t = if t < x then D.countP (fun s => decide (s ≤ t)) else 0 := by
  unfold cntI
  rw [List.countP_map]
  by_cases h : t < x
  · rw [if_pos h]
    apply List.countP_congr
    intro s _
    simp only [Function.comp, Iv.at, decide_eq_true_eq]
    exact ⟨fun h1 => h1.1, fun h1 => ⟨h1, h⟩⟩
  · rw [if_neg h]
    rw [List.countP_eq_zero]
    intro s _
    simp only [Function.comp, Iv.at, decide_eq_true_eq]
    omega
theorem InvU.start (V : Int → Int) (x : Int) (hV : ∀ t, t < x → V t = 0) : InvU V (x - 1) x [] [] :=
  ⟨by omega, by simp, by simp, List.Pairwise.nil, List.Pairwise.nil, by simp, fun t ht => by rw [hV t ht]; simp [cntI]⟩
/-- Some are closed at x. -/
theorem InvU.closed {V : Int → Int} {y x : Int} {D E : List Int} {out : List Iv} (h : InvU V y x (D ++ E) out) :
    (∀ c ∈ out ++ D.map (fun s => (⟨s, x⟩ : Iv)), c.lo < c.hi ∧ c.hi ≤ x) ∧ (out ++ D.map (fun s => (⟨s, x⟩ : Iv))).Pairwise Compat ∧ (∀ c ∈ out ++ D.map (fun s => (⟨s, x⟩ : Iv)), ∀ s ∈ E, c.hi < s ∨ s ≤ c.lo) ∧
      (∀ t, t < x → ((cntI (out ++ D.map (fun s => (⟨s, x⟩ : Iv))) t : Nat) : Int) + ((E.countP (fun s => decide (s ≤ t)) : Nat) : Int) = max (V t) 0) ∧ (∀ t, x ≤ t → cntI (out ++ D.map (fun s => (⟨s, x⟩ : Iv))) t = 0) := by
  have hyx := h.yx
  obtain ⟨d1, d2, d3⟩ := List.pairwise_append.1 h.down
  have hDy : ∀ s ∈ D, s ≤ y := fun s hs => h.le s (List.mem_append_left _ hs)
  refine ⟨?_, ?_, ?_, ?_, ?_⟩
  · intro c hc
    rcases List.mem_append.1 hc with hc | hc
    · have := h.ok c hc; omega
    · obtain ⟨s, hs, rfl⟩ := List.mem_map.1 hc
      have := hDy s hs
      exact ⟨by show s < x; omega, Int.le_refl _⟩
  · rw [List.pairwise_append]
    refine ⟨h.two, ?_, ?_⟩
    · rw [List.pairwise_map]
      refine d1.imp ?_
      intro a b hab
      exact .inr (.inr (.inr ⟨hab, Int.le_refl _⟩))
    · intro c hc b hb
      obtain ⟨s, hs, rfl⟩ := List.mem_map.1 hb
      have h1 := h.both c hc s (List.mem_append_left _ hs)
      have h2 := h.ok c hc
      unfold Compat
      show c.hi < s ∨ x < c.lo ∨ (c.lo ≤ s ∧ x ≤ c.hi) ∨ (s ≤ c.lo ∧ c.hi ≤ x)
      omega
  · intro c hc s hs
    rcases List.mem_append.1 hc with hc | hc
    · exact h.both c hc s (List.mem_append_right _ hs)
    · obtain ⟨u, hu, rfl⟩ := List.mem_map.1 hc
      exact .inr (d3 u hu s hs)
  · intro t ht
    have h1 := h.cnt t ht
    rw [cntI_append, cntI_closed, if_pos ht]
    rw [List.countP_append] at h1
    omega
  · intro t ht
    rw [cntI_append, cntI_closed, if_neg (by omega)]
    have : cntI out t = 0 := by
      unfold cntI
      rw [List.countP_eq_zero]
      intro c hc
      have := h.ok c hc
      simp only [Iv.at, decide_eq_true_eq]
      omega
    omega
theorem InvU.next {V : Int → Int} {y x : Int} {S : List Int} {out : List Iv} (h : InvU V y x S out) (p : Pc) (hp : p.lo = x) (hlt : p.lo < p.hi) (hV : ∀ t, p.lo ≤ t → t < p.hi → V t = p.n) :
    InvU V x p.hi (stepU p (S, out)).1 (stepU p (S, out)).2 := by
  have hyx := h.yx
  obtain ⟨D, E, e1, e2, e3⟩ := shrink_spec p.n.toNat p.lo S out
  unfold stepU
  rw [e2]
  simp only
  subst hp
  subst e1
  obtain ⟨c1, c2, c3, c4, c5⟩ := h.closed
  obtain ⟨d1, d2, d3⟩ := List.pairwise_append.1 h.down
  have hE : ∀ s ∈ E, s ≤ y := fun s hs => h.le s (List.mem_append_right _ hs)
  have hrep : ∀ s, s ∈ List.replicate (p.n.toNat - E.length) p.lo → s = p.lo := fun s hs => (List.mem_replicate.1 hs).2
  have hDn : p.n.toNat - E.length ≠ 0 → D = [] := fun hne => by
    rw [List.length_append] at e3
    exact List.eq_nil_of_length_eq_zero (by omega)
  have hlen : (grow_ p.n.toNat p.lo E).length = p.n.toNat := by
    unfold grow_
    rw [List.length_append, List.length_replicate]
    omega
  refine ⟨hlt, c1, ?_, ?_, c2, ?_, ?_⟩
  · intro s hs
    rcases List.mem_append.1 hs with hs | hs
    · rw [hrep s hs]; exact Int.le_refl _
    · have := hE s hs; omega
  · unfold grow_
    rw [List.pairwise_append]
    refine ⟨List.pairwise_replicate.2 (.inr (Int.le_refl _)), d2, ?_⟩
    intro a ha b hb
    rw [hrep a ha]
    have := hE b hb
    omega
  · intro c hc s hs
    rcases List.mem_append.1 hs with hs | hs
    · have hne : p.n.toNat - E.length ≠ 0 := by intro e; rw [e] at hs; simp at hs
      rw [hDn hne] at hc
      simp only [List.map_nil, List.append_nil] at hc
      have := h.ok c hc
      rw [hrep s hs]
      exact .inl (by omega)
    · exact c3 c hc s hs
  · intro t ht
    by_cases htx : t < p.lo
    · have h1 := c4 t htx
      unfold grow_
      rw [List.countP_append]
      have : List.countP (fun s => decide (s ≤ t)) (List.replicate (p.n.toNat - E.length) p.lo) = 0 := by
        rw [List.countP_eq_zero]
        intro s hs
        rw [hrep s hs]
        simp only [decide_eq_true_eq]
        omega
      omega
    · rw [c5 t (by omega), hV t (by omega) ht]
      have : List.countP (fun s => decide (s ≤ t)) (grow_ p.n.toNat p.lo E) = p.n.toNat := by
        refine Eq.trans (List.countP_eq_length.2 ?_) hlen
        intro s hs
        simp only [decide_eq_true_eq]
        rcases List.mem_append.1 hs with hs | hs
        · rw [hrep s hs]; omega
        · have := hE s hs; omega
      rw [this]
      omega
/-- What pieces come to, in turn. -/
def runU (ps : List Pc) (st : List Int × List Iv) : List Int × List Iv := ps.foldl (fun st p => stepU p st) st
theorem runU_snoc (ps : List Pc) (p : Pc) (st : List Int × List Iv) : runU (ps ++ [p]) st = stepU p (runU ps st) := by unfold runU; rw [List.foldl_append]; rfl
theorem InvU.run {V : Int → Int} : ∀ {ps : List Pc} {y x z : Int} {S : List Int} {out : List Iv}, InvU V y x S out → Chn x ps z → (∀ p ∈ ps, ∀ t, p.lo ≤ t → t < p.hi → V t = p.n) → ∃ y', InvU V y' z (runU ps (S, out)).1 (runU ps (S, out)).2
  | [], y, x, z, S, out, h, hc, _ => by unfold Chn at hc; subst hc; exact ⟨y, h⟩
  | p :: ps, y, x, z, S, out, h, ⟨h1, h2, h3⟩, hV => by
    have h4 := h.next p h1 h2 (hV p (List.mem_cons_self ..))
    exact InvU.run (ps := ps) h4 h3 (fun q hq => hV q (List.mem_cons_of_mem _ hq))
/-- A row's facts, unfolded: not yet in order. -/
def unfoldL (ps : List Pc) (z : Int) : List Iv := (runU ps ([], [])).2 ++ (runU ps ([], [])).1.map (fun s => ⟨s, z⟩)
theorem unfold_ok {V : Int → Int} {ps : List Pc} {x z : Int} (hc : Chn x ps z) (hV : ∀ p ∈ ps, ∀ t, p.lo ≤ t → t < p.hi → V t = p.n) (h0 : ∀ t, t < x → V t = 0) (h1 : ∀ t, z ≤ t → V t = 0) :
    Lam (unfoldL ps z) ∧ (∀ t, ((cntI (unfoldL ps z) t : Nat) : Int) = max (V t) 0) ∧ ∀ c ∈ unfoldL ps z, c.hi ≤ z := by
  obtain ⟨y, h⟩ := (InvU.start V x h0).run hc hV
  generalize hS : (runU ps ([], [])).1 = S at h
  generalize hO : (runU ps ([], [])).2 = out at h
  unfold unfoldL
  rw [hS, hO]
  have hh : InvU V y z (S ++ []) out := by rw [List.append_nil]; exact h
  obtain ⟨c1, c2, c3, c4, c5⟩ := hh.closed
  refine ⟨⟨fun c hc => (c1 c hc).1, c2⟩, fun t => ?_, fun c hc => (c1 c hc).2⟩
  by_cases ht : t < z
  · have := c4 t ht
    simp at this
    exact this
  · rw [c5 t (by omega), h1 t (by omega)]
    simp
end Go.Proofs.YtlapifncplbcnaaGreat
