/- Periods as sets of instants, plainly: the one rising list; edges; what a walk along the edges makes. Of no seat: to be copied under a seat's name. -/
namespace Go.Proofs.YtbdpdobaacbkkaaDoor

structure Per where
  lo : Int
  hi : Int

def Right (p : Per) : Prop := 0 ≤ p.lo ∧ p.lo < p.hi ∧ p.hi ≤ 1099511627776
def Has (p : Per) (t : Int) : Prop := p.lo ≤ t ∧ t < p.hi
/-- An instant of one of them. -/
def Mem (l : List Per) (t : Int) : Prop := ∃ p ∈ l, Has p t
/-- Rising; no two overlap or meet. -/
def Canon : List Per → Prop
  | [] => True
  | [p] => p.lo < p.hi
  | p :: q :: r => p.lo < p.hi ∧ p.hi < q.lo ∧ Canon (q :: r)

theorem Canon.tail {p : Per} {r : List Per} (h : Canon (p :: r)) : Canon r := by
  cases r with
  | nil => trivial
  | cons q r => exact h.2.2
theorem Canon.head {p : Per} {r : List Per} (h : Canon (p :: r)) : p.lo < p.hi := by
  cases r with
  | nil => exact h
  | cons q r => exact h.1
theorem Canon.later {p : Per} {r : List Per} (h : Canon (p :: r)) : ∀ q ∈ r, p.hi < q.lo ∧ q.lo < q.hi := by
  induction r generalizing p with
  | nil => intro q hq; cases hq
  | cons x r ih =>
    intro q hq
    rcases List.mem_cons.1 hq with rfl | hq
    · exact ⟨h.2.1, h.2.2.head⟩
    · have h1 := ih h.2.2 q hq
      have h2 := h.2.2.head
      have := h.2.1
      exact ⟨by omega, h1.2⟩
/-- Lists that are so and have the same instants are the same. -/
theorem canon_unique : ∀ (l m : List Per), Canon l → Canon m → (∀ t, Mem l t ↔ Mem m t) → l = m := by
  intro l
  induction l with
  | nil =>
    intro m _ hm h
    cases m with
    | nil => rfl
    | cons q m =>
      obtain ⟨p, hp, _⟩ := (h q.lo).2 ⟨q, by simp, Int.le_refl _, hm.head⟩
      cases hp
  | cons p l ih =>
    intro m hl hm h
    cases m with
    | nil =>
      obtain ⟨q, hq, _⟩ := (h p.lo).1 ⟨p, by simp, Int.le_refl _, hl.head⟩
      cases hq
    | cons q m =>
      have hlo : p.lo = q.lo := by
        obtain ⟨x, hx, hx1, hx2⟩ := (h p.lo).1 ⟨p, by simp, Int.le_refl _, hl.head⟩
        obtain ⟨y, hy, hy1, hy2⟩ := (h q.lo).2 ⟨q, by simp, Int.le_refl _, hm.head⟩
        have h1 : q.lo ≤ x.lo := by
          rcases List.mem_cons.1 hx with rfl | hx
          · exact Int.le_refl _
          · have := hm.later x hx; have := hm.head; omega
        have h2 : p.lo ≤ y.lo := by
          rcases List.mem_cons.1 hy with rfl | hy
          · exact Int.le_refl _
          · have := hl.later y hy; have := hl.head; omega
        omega
      have hhi : p.hi = q.hi := by
        have hp := hl.head
        have hq := hm.head
        rcases Int.lt_trichotomy p.hi q.hi with h1 | h1 | h1
        · obtain ⟨x, hx, hx1, hx2⟩ := (h p.hi).2 ⟨q, by simp, by omega, h1⟩
          rcases List.mem_cons.1 hx with rfl | hx
          · omega
          · have := hl.later x hx; omega
        · exact h1
        · obtain ⟨x, hx, hx1, hx2⟩ := (h q.hi).1 ⟨p, by simp, by omega, h1⟩
          rcases List.mem_cons.1 hx with rfl | hx
          · omega
          · have := hm.later x hx; omega
      have hpq : p = q := by cases p; cases q; simp_all
      subst hpq
      rw [ih m hl.tail hm.tail]
      intro t
      constructor
      · rintro ⟨x, hx, h1, h2⟩
        have h3 := hl.later x hx
        obtain ⟨y, hy, h4⟩ := (h t).1 ⟨x, by simp [hx], h1, h2⟩
        rcases List.mem_cons.1 hy with rfl | hy
        · have := h4.2; omega
        · exact ⟨y, hy, h4⟩
      · rintro ⟨x, hx, h1, h2⟩
        have h3 := hm.later x hx
        obtain ⟨y, hy, h4⟩ := (h t).2 ⟨x, by simp [hx], h1, h2⟩
        rcases List.mem_cons.1 hy with rfl | hy
        · have := h4.2; omega
        · exact ⟨y, hy, h4⟩

/-- Rising numbers. -/
def Rising : List Int → Prop
  | [] => True
  | [_] => True
  | a :: b :: r => a < b ∧ Rising (b :: r)
theorem Rising.tail {a : Int} {r : List Int} (h : Rising (a :: r)) : Rising r := by
  cases r with
  | nil => trivial
  | cons b r => exact h.2
theorem Rising.later {a : Int} {r : List Int} (h : Rising (a :: r)) : ∀ b ∈ r, a < b := by
  induction r generalizing a with
  | nil => intro b hb; cases hb
  | cons x r ih =>
    intro b hb
    rcases List.mem_cons.1 hb with rfl | hb
    · exact h.1
    · have := ih h.2 b hb; have := h.1; omega
theorem rising_unique : ∀ (l m : List Int), Rising l → Rising m → (∀ t, t ∈ l ↔ t ∈ m) → l = m := by
  intro l
  induction l with
  | nil =>
    intro m _ _ h
    cases m with
    | nil => rfl
    | cons q m => exact absurd ((h q).2 (by simp)) (by simp)
  | cons p l ih =>
    intro m hl hm h
    cases m with
    | nil => exact absurd ((h p).1 (by simp)) (by simp)
    | cons q m =>
      have hpq : p = q := by
        have h1 := (h p).1 (by simp)
        have h2 := (h q).2 (by simp)
        rcases List.mem_cons.1 h1 with h1 | h1
        · exact h1
        · rcases List.mem_cons.1 h2 with h2 | h2
          · exact h2.symm
          · have := hm.later p h1; have := hl.later q h2; omega
      subst hpq
      rw [ih m hl.tail hm.tail]
      intro t
      constructor
      · intro ht
        rcases List.mem_cons.1 ((h t).1 (by simp [ht])) with h1 | h1
        · subst h1; have := hl.later t ht; omega
        · exact h1
      · intro ht
        rcases List.mem_cons.1 ((h t).2 (by simp [ht])) with h1 | h1
        · subst h1; have := hm.later t ht; omega
        · exact h1

/-- One stretch more behind a list: it goes on with the last one where that ends at its beginning. -/
def push (out : List Per) (a b : Int) : List Per :=
  match out.getLast? with
  | some p => if p.hi = a then out.dropLast ++ [⟨p.lo, b⟩] else out ++ [⟨a, b⟩]
  | none => [⟨a, b⟩]
/-- Along the edges. -/
def along (cond : Int → Bool) : List Int → List Per → List Per
  | a :: b :: r, out => along cond (b :: r) (if cond a then push out a b else out)
  | [_], out => out
  | [], out => out

theorem canon_snoc : ∀ (out : List Per) (p : Per), Canon (out ++ [p]) ↔ Canon out ∧ p.lo < p.hi ∧ ∀ q, out.getLast? = some q → q.hi < p.lo
  | [], p => by simp [Canon]
  | [x], p => by
    simp only [List.cons_append, List.nil_append, Canon, List.getLast?_singleton, Option.some.injEq]
    constructor
    · rintro ⟨h1, h2, h3⟩; exact ⟨h1, h3, by rintro q rfl; exact h2⟩
    · rintro ⟨h1, h2, h3⟩; exact ⟨h1, h3 x rfl, h2⟩
  | x :: y :: r, p => by
    have ih := canon_snoc (y :: r) p
    simp only [List.cons_append, Canon] at ih ⊢
    rw [ih]
    simp only [List.getLast?_cons_cons]
    constructor
    · rintro ⟨h1, h2, h3, h4⟩; exact ⟨⟨h1, h2, h3⟩, h4⟩
    · rintro ⟨⟨h1, h2, h3⟩, h4⟩; exact ⟨h1, h2, h3, h4⟩
theorem getLast_split {out : List Per} {p : Per} (h : out.getLast? = some p) : out = out.dropLast ++ [p] := by
  rcases List.eq_nil_or_concat out with rfl | ⟨a, b, rfl⟩
  · simp at h
  · simp at h; subst h; simp
theorem push_spec (out : List Per) (a b : Int) (hc : Canon out) (hab : a < b) (hl : ∀ q, out.getLast? = some q → q.hi ≤ a) :
    Canon (push out a b) ∧ (∀ q, (push out a b).getLast? = some q → q.hi ≤ b) ∧ ∀ t, Mem (push out a b) t ↔ Mem out t ∨ (a ≤ t ∧ t < b) := by
  unfold push
  cases hg : out.getLast? with
  | none =>
    have ho : out = [] := by simpa using hg
    subst ho
    refine ⟨hab, by intro q hq; simp at hq; subst hq; exact Int.le_refl _, fun t => ?_⟩
    simp [Mem, Has]
  | some p =>
    have hs := getLast_split hg
    obtain ⟨init, hinit⟩ : ∃ i, i = out.dropLast := ⟨_, rfl⟩
    rw [← hinit] at hs
    simp only
    rw [← hinit]
    have hc2 := hc
    rw [hs, canon_snoc] at hc2
    obtain ⟨h1, h2, h3⟩ := hc2
    have hpa := hl p hg
    by_cases he : p.hi = a
    · rw [if_pos he]
      refine ⟨(canon_snoc _ _).2 ⟨h1, by simp only; omega, h3⟩, by intro q hq; simp at hq; subst hq; exact Int.le_refl _, fun t => ?_⟩
      rw [hs]
      constructor
      · rintro ⟨x, hx, h4, h5⟩
        rcases List.mem_append.1 hx with hx | hx
        · exact .inl ⟨x, by simp [hx], h4, h5⟩
        · simp at hx; subst hx
          simp only at h4 h5
          by_cases h6 : t < p.hi
          · exact .inl ⟨p, by simp, h4, h6⟩
          · exact .inr ⟨by omega, h5⟩
      · rintro (⟨x, hx, h4, h5⟩ | ⟨h4, h5⟩)
        · rcases List.mem_append.1 hx with hx | hx
          · exact ⟨x, by simp [hx], h4, h5⟩
          · simp at hx; subst hx
            exact ⟨⟨x.lo, b⟩, by simp, h4, by simp only; omega⟩
        · exact ⟨⟨p.lo, b⟩, by simp, by simp only; omega, h5⟩
    · rw [if_neg he]
      refine ⟨(canon_snoc _ _).2 ⟨hc, hab, fun q hq => by rw [hg] at hq; injection hq with hq; subst hq; simp only; omega⟩, by intro q hq; simp at hq; subst hq; exact Int.le_refl _, fun t => ?_⟩
      constructor
      · rintro ⟨x, hx, h4, h5⟩
        rcases List.mem_append.1 hx with hx | hx
        · exact .inl ⟨x, hx, h4, h5⟩
        · simp at hx; subst hx; exact .inr ⟨h4, h5⟩
      · rintro (⟨x, hx, h4⟩ | h4)
        · exact ⟨x, by simp [hx], h4⟩
        · exact ⟨⟨a, b⟩, by simp, h4⟩
/-- Two edges that follow each other. -/
def Next : List Int → Int → Int → Prop
  | a :: b :: r, x, y => (x = a ∧ y = b) ∨ Next (b :: r) x y
  | _, _, _ => False
theorem along_spec (cond : Int → Bool) : ∀ (es : List Int) (out : List Per), Rising es → Canon out → (∀ q a r, out.getLast? = some q → es = a :: r → q.hi ≤ a) →
    Canon (along cond es out) ∧ ∀ t, Mem (along cond es out) t ↔ Mem out t ∨ ∃ x y, Next es x y ∧ cond x = true ∧ x ≤ t ∧ t < y
  | [], out, _, hc, _ => ⟨hc, fun t => by simp [along, Next]⟩
  | [a], out, _, hc, _ => ⟨hc, fun t => by simp [along, Next]⟩
  | a :: b :: r, out, hr, hc, hl => by
    have hab := hr.1
    by_cases h : cond a = true
    · obtain ⟨p1, p2, p3⟩ := push_spec out a b hc hab (fun q hq => hl q a _ hq rfl)
      have ih := along_spec cond (b :: r) (push out a b) hr.2 p1 (fun q x y hq he => by injection he with he _; rw [← he]; exact p2 q hq)
      rw [along, if_pos h]
      refine ⟨ih.1, fun t => ?_⟩
      rw [ih.2 t, p3 t]
      constructor
      · rintro ((h1 | h1) | ⟨x, y, h1, h2⟩)
        · exact .inl h1
        · exact .inr ⟨a, b, .inl ⟨rfl, rfl⟩, h, h1⟩
        · exact .inr ⟨x, y, .inr h1, h2⟩
      · rintro (h1 | ⟨x, y, h1 | h1, h2, h3⟩)
        · exact .inl (.inl h1)
        · obtain ⟨rfl, rfl⟩ := h1; exact .inl (.inr h3)
        · exact .inr ⟨x, y, h1, h2, h3⟩
    · have ih := along_spec cond (b :: r) out hr.2 hc (fun q x y hq he => by injection he with he _; rw [← he]; have := hl q a _ hq rfl; omega)
      rw [along, if_neg h]
      refine ⟨ih.1, fun t => ?_⟩
      rw [ih.2 t]
      constructor
      · rintro (h1 | ⟨x, y, h1, h2⟩)
        · exact .inl h1
        · exact .inr ⟨x, y, .inr h1, h2⟩
      · rintro (h1 | ⟨x, y, h1 | h1, h2, h3⟩)
        · exact .inl h1
        · obtain ⟨rfl, rfl⟩ := h1; exact absurd h2 h
        · exact .inr ⟨x, y, h1, h2, h3⟩

theorem next_mem : ∀ {es : List Int} {x y : Int}, Next es x y → x ∈ es ∧ y ∈ es
  | [], _, _, h => h.elim
  | [_], _, _, h => h.elim
  | a :: b :: r, x, y, h => by
    rcases h with ⟨rfl, rfl⟩ | h
    · simp
    · have := next_mem h
      exact ⟨by simp [this.1], List.mem_cons_of_mem _ this.2⟩
theorem next_between : ∀ {es : List Int} {x y e : Int}, Rising es → Next es x y → e ∈ es → ¬ (x < e ∧ e < y)
  | [], _, _, _, _, h, _ => h.elim
  | [_], _, _, _, _, h, _ => h.elim
  | a :: b :: r, x, y, e, hr, h, he => by
    rintro ⟨h1, h2⟩
    rcases h with ⟨rfl, rfl⟩ | h
    · rcases List.mem_cons.1 he with rfl | he
      · omega
      · rcases List.mem_cons.1 he with rfl | he
        · omega
        · have := hr.2.later e he; omega
    · rcases List.mem_cons.1 he with rfl | he
      · have := (next_mem h).1
        rcases List.mem_cons.1 this with rfl | h3
        · have := hr.1; omega
        · have := hr.later x (by simp [h3]); omega
      · exact next_between hr.2 h he ⟨h1, h2⟩
theorem next_around : ∀ {es : List Int} {u v t : Int}, Rising es → u ∈ es → v ∈ es → u ≤ t → t < v → ∃ x y, Next es x y ∧ x ≤ t ∧ t < y
  | [], _, _, _, _, h, _, _, _ => by cases h
  | [a], u, v, t, _, hu, hv, h1, h2 => by simp at hu hv; omega
  | a :: b :: r, u, v, t, hr, hu, hv, h1, h2 => by
    by_cases hb : t < b
    · have ha : a ≤ t := by
        rcases List.mem_cons.1 hu with rfl | hu
        · exact h1
        · have := hr.later u hu; omega
      exact ⟨a, b, .inl ⟨rfl, rfl⟩, ha, hb⟩
    · have hv2 : v ∈ b :: r := by
        rcases List.mem_cons.1 hv with rfl | hv
        · have := hr.1; omega
        · exact hv
      obtain ⟨x, y, h3, h4⟩ := next_around hr.2 (u := b) (by simp) hv2 (by omega) h2
      exact ⟨x, y, .inr h3, h4⟩
theorem has_const {es : List Int} {x y t : Int} {p : Per} (hr : Rising es) (hn : Next es x y) (h1 : x ≤ t) (h2 : t < y) (hl : p.lo ∈ es) (hh : p.hi ∈ es) : Has p t ↔ Has p x := by
  have b1 := next_between hr hn hl
  have b2 := next_between hr hn hh
  unfold Has
  constructor
  · rintro ⟨h3, h4⟩; exact ⟨by omega, by omega⟩
  · rintro ⟨h3, h4⟩; exact ⟨by omega, by omega⟩

/-- The ends of all that are periods, rising. -/
def IsEdges (list : List Per) (es : List Int) : Prop := Rising es ∧ ∀ t, t ∈ es ↔ ∃ p ∈ list, Right p ∧ (t = p.lo ∨ t = p.hi)
theorem edges_unique {list : List Per} {es fs : List Int} (h1 : IsEdges list es) (h2 : IsEdges list fs) : es = fs :=
  rising_unique es fs h1.1 h2.1 (fun t => by rw [h1.2, h2.2])
/-- An instant of one that is a period. -/
def In (list : List Per) (t : Int) : Prop := ∃ p ∈ list, Right p ∧ Has p t
theorem in_const {all list : List Per} {es : List Int} {x y t : Int} (he : IsEdges all es) (hs : ∀ p ∈ list, p ∈ all) (hn : Next es x y) (h1 : x ≤ t) (h2 : t < y) : In list t ↔ In list x := by
  constructor
  · rintro ⟨p, hp, h3, h4⟩
    exact ⟨p, hp, h3, (has_const he.1 hn h1 h2 ((he.2 _).2 ⟨p, hs p hp, h3, .inl rfl⟩) ((he.2 _).2 ⟨p, hs p hp, h3, .inr rfl⟩)).1 h4⟩
  · rintro ⟨p, hp, h3, h4⟩
    exact ⟨p, hp, h3, (has_const he.1 hn h1 h2 ((he.2 _).2 ⟨p, hs p hp, h3, .inl rfl⟩) ((he.2 _).2 ⟨p, hs p hp, h3, .inr rfl⟩)).2 h4⟩
/-- Where a has none of 'without', or one of 'with' is there: the one list. -/
theorem where_spec (a : Per) (wi wo : List Per) (es : List Int) (cond : Int → Bool) (he : IsEdges (a :: wi ++ wo) es) (hc : ∀ t, cond t = true ↔ (Right a ∧ Has a t ∧ ¬ In wo t) ∨ In wi t) :
    Canon (along cond es []) ∧ ∀ t, Mem (along cond es []) t ↔ (Right a ∧ Has a t ∧ ¬ In wo t) ∨ In wi t := by
  obtain ⟨h1, h2⟩ := along_spec cond es [] he.1 trivial (by intro q x r hq; simp at hq)
  refine ⟨h1, fun t => ?_⟩
  rw [h2 t]
  have key : ∀ x y, Next es x y → x ≤ t → t < y → (cond x = true ↔ (Right a ∧ Has a t ∧ ¬ In wo t) ∨ In wi t) := by
    intro x y hn h3 h4
    rw [hc x, in_const he (list := wo) (by simp +contextual) hn h3 h4, in_const he (list := wi) (by simp +contextual) hn h3 h4]
    constructor
    · rintro (⟨q1, q2, q3⟩ | q)
      · exact .inl ⟨q1, (has_const he.1 hn h3 h4 ((he.2 _).2 ⟨a, by simp, q1, .inl rfl⟩) ((he.2 _).2 ⟨a, by simp, q1, .inr rfl⟩)).2 q2, q3⟩
      · exact .inr q
    · rintro (⟨q1, q2, q3⟩ | q)
      · exact .inl ⟨q1, (has_const he.1 hn h3 h4 ((he.2 _).2 ⟨a, by simp, q1, .inl rfl⟩) ((he.2 _).2 ⟨a, by simp, q1, .inr rfl⟩)).1 q2, q3⟩
      · exact .inr q
  constructor
  · rintro (h | ⟨x, y, hn, h3, h4, h5⟩)
    · obtain ⟨p, hp, _⟩ := h; cases hp
    · exact (key x y hn h4 h5).1 h3
  · intro h
    right
    have : ∃ p ∈ a :: wi ++ wo, Right p ∧ Has p t := by
      rcases h with ⟨q1, q2, _⟩ | ⟨p, hp, q1, q2⟩
      · exact ⟨a, by simp, q1, q2⟩
      · exact ⟨p, by simp [hp], q1, q2⟩
    obtain ⟨p, hp, q1, q2⟩ := this
    obtain ⟨x, y, hn, h3, h4⟩ := next_around he.1 ((he.2 _).2 ⟨p, hp, q1, .inl rfl⟩) ((he.2 _).2 ⟨p, hp, q1, .inr rfl⟩) q2.1 q2.2
    exact ⟨x, y, hn, (key x y hn h3 h4).2 h, h3, h4⟩
end Go.Proofs.YtbdpdobaacbkkaaDoor
